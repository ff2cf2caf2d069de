/-
  What ipv.Decode does.
-/
import Derived.Test.YtdoefjhdipkkeaaDoorDec4
namespace Go.Proofs.YtdoefjhdipkkeaaDoor
open Go.RowKit
set_option linter.unusedVariables false

set_option maxHeartbeats 400000 in
theorem decode_empty (a : Option Addr) (c : Nat) (w : World) :
    Calls Tryd.prog 53 #[.slice a 0 c] w fun e w' => e = .returned (.tuple #[.agg #[.string ⟨#[]⟩, .string ⟨#[]⟩, .int .i64 0, .int .i64 0, .string ⟨#[]⟩], .int .i64 30]) ∧ Below w.heap.size w w' := by
  go_enter Tryd.func53, Tryd.ntmps53
  go_wp2
  exact bodyPost_ret (v := .tuple #[.agg #[.string ⟨#[]⟩, .string ⟨#[]⟩, .int .i64 0, .int .i64 0, .string ⟨#[]⟩], .int .i64 30]) (by simp [results, Tryd.results53, go_sem]) rfl ⟨rfl, (Below.refl _ _).alloc (Nat.le_refl _) _⟩

set_option maxHeartbeats 400000 in
theorem decode_version (b off n c : Nat) (bs : List Int) (w : World) (hp : Part w ⟨some ⟨b, off, none⟩, n, c, bs⟩) (hn : n ≤ 140737488355328) (h1 : 1 ≤ n) (x0 : Int) (e0 : byteAt bs 0 = x0) (h6 : x0 / 16 ≠ 6) (h4 : x0 / 16 ≠ 4) :
    Calls Tryd.prog 53 #[.slice (some ⟨b, off, none⟩) n c] w fun e w' => e = .returned (.tuple #[.agg #[.string ⟨#[]⟩, .string ⟨#[]⟩, .int .i64 0, .int .i64 0, .string ⟨#[]⟩], .int .i64 31]) ∧ Below w.heap.size w w' := by
  have c0 : w.cell? ⟨b, off, none⟩ = some (.int .u8 x0) := by rw [← e0]; exact hp.at (by omega) 0 (by omega)
  have q0 : 0 ≤ x0 ∧ x0 ≤ 255 := by rw [← e0]; exact byteAt_bd hp.2.2.1 0
  have hbl : b < w.heap.size := World.block_lt_of_cell? _ _ c0
  have hnc : n ≤ c := hp.2.1
  have i0 : (0 : Int) < (n : Int) := by omega
  have g0 : decide ((n : Int) = 0) = false := by simp; omega
  have g1 : decide (n = 0) = false := by simp; omega
  have d6 : decide (x0 / 16 = 6) = false := by simpa using h6
  have d4 : decide (x0 / 16 = 4) = false := by simpa using h4
  clear hp
  go_enter Tryd.func53, Tryd.ntmps53
  go_wp2
  exact bodyPost_ret (v := .tuple #[.agg #[.string ⟨#[]⟩, .string ⟨#[]⟩, .int .i64 0, .int .i64 0, .string ⟨#[]⟩], .int .i64 31]) (by simp [results, Tryd.results53, go_sem]) rfl ⟨rfl, (Below.refl _ _).alloc (Nat.le_refl _) _⟩

set_option maxHeartbeats 400000 in
theorem decode_short6 (b off n c : Nat) (bs : List Int) (w : World) (hp : Part w ⟨some ⟨b, off, none⟩, n, c, bs⟩) (hn : n ≤ 140737488355328) (h1 : 1 ≤ n) (x0 : Int) (e0 : byteAt bs 0 = x0) (h6 : x0 / 16 = 6) (h : n < 40) :
    Calls Tryd.prog 53 #[.slice (some ⟨b, off, none⟩) n c] w fun e w' => e = .returned (.tuple #[.agg #[.string ⟨#[]⟩, .string ⟨#[]⟩, .int .i64 0, .int .i64 0, .string ⟨#[]⟩], .int .i64 30]) ∧ Below w.heap.size w w' := by
  have c0 : w.cell? ⟨b, off, none⟩ = some (.int .u8 x0) := by rw [← e0]; exact hp.at (by omega) 0 (by omega)
  have q0 : 0 ≤ x0 ∧ x0 ≤ 255 := by rw [← e0]; exact byteAt_bd hp.2.2.1 0
  have hbl : b < w.heap.size := World.block_lt_of_cell? _ _ c0
  have hnc : n ≤ c := hp.2.1
  have i0 : (0 : Int) < (n : Int) := by omega
  have g0 : decide ((n : Int) = 0) = false := by simp; omega
  have g1 : decide (n = 0) = false := by simp; omega
  have d5 : decide ((n : Int) < 40) = true := by simp; omega
  have d6 : decide (n < 40) = true := by simp; omega
  clear hp
  go_enter Tryd.func53, Tryd.ntmps53
  go_wp2
  exact bodyPost_ret (v := .tuple #[.agg #[.string ⟨#[]⟩, .string ⟨#[]⟩, .int .i64 0, .int .i64 0, .string ⟨#[]⟩], .int .i64 30]) (by simp [results, Tryd.results53, go_sem]) rfl ⟨rfl, (Below.refl _ _).alloc (Nat.le_refl _) _⟩

set_option maxHeartbeats 400000 in
theorem decode_short4 (b off n c : Nat) (bs : List Int) (w : World) (hp : Part w ⟨some ⟨b, off, none⟩, n, c, bs⟩) (hn : n ≤ 140737488355328) (h1 : 1 ≤ n) (x0 : Int) (e0 : byteAt bs 0 = x0) (h4 : x0 / 16 = 4) (h : n < 20) :
    Calls Tryd.prog 53 #[.slice (some ⟨b, off, none⟩) n c] w fun e w' => e = .returned (.tuple #[.agg #[.string ⟨#[]⟩, .string ⟨#[]⟩, .int .i64 0, .int .i64 0, .string ⟨#[]⟩], .int .i64 30]) ∧ Below w.heap.size w w' := by
  have c0 : w.cell? ⟨b, off, none⟩ = some (.int .u8 x0) := by rw [← e0]; exact hp.at (by omega) 0 (by omega)
  have q0 : 0 ≤ x0 ∧ x0 ≤ 255 := by rw [← e0]; exact byteAt_bd hp.2.2.1 0
  have hbl : b < w.heap.size := World.block_lt_of_cell? _ _ c0
  have hnc : n ≤ c := hp.2.1
  have i0 : (0 : Int) < (n : Int) := by omega
  have g0 : decide ((n : Int) = 0) = false := by simp; omega
  have g1 : decide (n = 0) = false := by simp; omega
  have d5 : decide ((n : Int) < 20) = true := by simp; omega
  have d6 : decide (n < 20) = true := by simp; omega
  clear hp
  go_enter Tryd.func53, Tryd.ntmps53
  go_wp2
  exact bodyPost_ret (v := .tuple #[.agg #[.string ⟨#[]⟩, .string ⟨#[]⟩, .int .i64 0, .int .i64 0, .string ⟨#[]⟩], .int .i64 30]) (by simp [results, Tryd.results53, go_sem]) rfl ⟨rfl, (Below.refl _ _).alloc (Nat.le_refl _) _⟩

set_option maxHeartbeats 400000 in
theorem decode_six (b off n c : Nat) (bs : List Int) (w : World) (hp : Part w ⟨some ⟨b, off, none⟩, n, c, bs⟩) (hn : n ≤ 140737488355328) (h1 : 1 ≤ n) (x0 : Int) (e0 : byteAt bs 0 = x0) (h : x0 / 16 = 6) (h2 : 40 ≤ n) (A : Option Addr) (hA : (if c = 40 then some (⟨b, off, none⟩ : Addr) else some ⟨b, off + 40, none⟩) = A) (f t : ByteArray) (p l : Int) (s : ByteArray) (r : Int)
    (H : Calls Tryd.prog 67 #[.slice (some ⟨b, off, none⟩) 40 40, .slice A (n - 40) (c - 40)] (w.alloc (.cells #[.string ⟨#[]⟩, .string ⟨#[]⟩, .int .i64 0, .int .i64 0, .string ⟨#[]⟩] 72)).drew fun e w' => e = .returned (.tuple #[.agg #[.string f, .string t, .int .i64 p, .int .i64 l, .string s], .int .i64 r]) ∧ Below (w.heap.size + 1) (w.alloc (.cells #[.string ⟨#[]⟩, .string ⟨#[]⟩, .int .i64 0, .int .i64 0, .string ⟨#[]⟩] 72)).drew w') :
    Calls Tryd.prog 53 #[.slice (some ⟨b, off, none⟩) n c] w fun e w' => e = .returned (.tuple #[.agg #[.string f, .string t, .int .i64 p, .int .i64 l, .string s], .int .i64 r]) ∧ Below w.heap.size w w' := by
  have c0 : w.cell? ⟨b, off, none⟩ = some (.int .u8 x0) := by rw [← e0]; exact hp.at (by omega) 0 (by omega)
  have q0 : 0 ≤ x0 ∧ x0 ≤ 255 := by rw [← e0]; exact byteAt_bd hp.2.2.1 0
  have hbl : b < w.heap.size := World.block_lt_of_cell? _ _ c0
  have hnc : n ≤ c := hp.2.1
  have i0 : (0 : Int) < (n : Int) := by omega
  have g0 : decide ((n : Int) = 0) = false := by simp; omega
  have g1 : decide (n = 0) = false := by simp; omega
  have d5 : decide ((n : Int) < 40) = false := by simp; omega
  have d6 : decide (n < 40) = false := by simp; omega
  have i1 : (40 : Int) ≤ (n : Int) := by omega
  have i2 : (40 : Int) ≤ (c : Int) := by omega
  have i3 : 40 ≤ c := by omega
  have HH := Lib.hid H
  clear hp H
  go_enter Tryd.func53, Tryd.ntmps53
  go_wp2_with fail
  go_region
  go_wp2_with fail
  refine HH.out.mono ?_
  rintro e w1 ⟨rfl, hb1⟩
  obtain ⟨hc1, hf1⟩ : (∀ b o, b < w.heap.size + 1 → w1.cell? ⟨b, o, none⟩ = (w.alloc (.cells #[.string ⟨#[]⟩, .string ⟨#[]⟩, .int .i64 0, .int .i64 0, .string ⟨#[]⟩] 72)).cell? ⟨b, o, none⟩) ∧ (∀ b o, b < w.heap.size + 1 → w1.frozen? ⟨b, o, none⟩ = (w.alloc (.cells #[.string ⟨#[]⟩, .string ⟨#[]⟩, .int .i64 0, .int .i64 0, .string ⟨#[]⟩] 72)).frozen? ⟨b, o, none⟩) :=
    ⟨fun b o h => hb1.cell (p := ⟨b, o, none⟩) h, fun b o h => hb1.frozen (p := ⟨b, o, none⟩) h⟩
  have z1 := hb1.size
  simp at z1
  have z2 : w.heap.size < w1.heap.size := by omega
  go_wp2
  refine bodyPost_ret (v := .tuple #[.agg #[.string f, .string t, .int .i64 p, .int .i64 l, .string s], .int .i64 r]) (by simp [results, Tryd.results53, go_sem, hc1]) rfl ⟨rfl, ?_⟩
  exact below5 (below_then (below_drew ((Below.refl _ _).alloc (Nat.le_refl _) _)) (by simp) (hb1.mono (by simp)))

set_option maxHeartbeats 400000 in
theorem decode_four (b off n c : Nat) (bs : List Int) (w : World) (hp : Part w ⟨some ⟨b, off, none⟩, n, c, bs⟩) (hn : n ≤ 140737488355328) (h1 : 1 ≤ n) (x0 : Int) (e0 : byteAt bs 0 = x0) (h : x0 / 16 = 4) (h2 : 20 ≤ n) (A : Option Addr) (hA : (if c = 20 then some (⟨b, off, none⟩ : Addr) else some ⟨b, off + 20, none⟩) = A) (f t : ByteArray) (p l : Int) (s : ByteArray) (r : Int)
    (H : Calls Tryd.prog 68 #[.slice (some ⟨b, off, none⟩) 20 20, .slice A (n - 20) (c - 20)] (w.alloc (.cells #[.string ⟨#[]⟩, .string ⟨#[]⟩, .int .i64 0, .int .i64 0, .string ⟨#[]⟩] 72)).drew fun e w' => e = .returned (.tuple #[.agg #[.string f, .string t, .int .i64 p, .int .i64 l, .string s], .int .i64 r]) ∧ Below (w.heap.size + 1) (w.alloc (.cells #[.string ⟨#[]⟩, .string ⟨#[]⟩, .int .i64 0, .int .i64 0, .string ⟨#[]⟩] 72)).drew w') :
    Calls Tryd.prog 53 #[.slice (some ⟨b, off, none⟩) n c] w fun e w' => e = .returned (.tuple #[.agg #[.string f, .string t, .int .i64 p, .int .i64 l, .string s], .int .i64 r]) ∧ Below w.heap.size w w' := by
  have c0 : w.cell? ⟨b, off, none⟩ = some (.int .u8 x0) := by rw [← e0]; exact hp.at (by omega) 0 (by omega)
  have q0 : 0 ≤ x0 ∧ x0 ≤ 255 := by rw [← e0]; exact byteAt_bd hp.2.2.1 0
  have hbl : b < w.heap.size := World.block_lt_of_cell? _ _ c0
  have hnc : n ≤ c := hp.2.1
  have i0 : (0 : Int) < (n : Int) := by omega
  have g0 : decide ((n : Int) = 0) = false := by simp; omega
  have g1 : decide (n = 0) = false := by simp; omega
  have d5 : decide ((n : Int) < 20) = false := by simp; omega
  have d6 : decide (n < 20) = false := by simp; omega
  have i1 : (20 : Int) ≤ (n : Int) := by omega
  have i2 : (20 : Int) ≤ (c : Int) := by omega
  have i3 : 20 ≤ c := by omega
  have HH := Lib.hid H
  clear hp H
  go_enter Tryd.func53, Tryd.ntmps53
  go_wp2_with fail
  go_region
  go_wp2_with fail
  refine HH.out.mono ?_
  rintro e w1 ⟨rfl, hb1⟩
  obtain ⟨hc1, hf1⟩ : (∀ b o, b < w.heap.size + 1 → w1.cell? ⟨b, o, none⟩ = (w.alloc (.cells #[.string ⟨#[]⟩, .string ⟨#[]⟩, .int .i64 0, .int .i64 0, .string ⟨#[]⟩] 72)).cell? ⟨b, o, none⟩) ∧ (∀ b o, b < w.heap.size + 1 → w1.frozen? ⟨b, o, none⟩ = (w.alloc (.cells #[.string ⟨#[]⟩, .string ⟨#[]⟩, .int .i64 0, .int .i64 0, .string ⟨#[]⟩] 72)).frozen? ⟨b, o, none⟩) :=
    ⟨fun b o h => hb1.cell (p := ⟨b, o, none⟩) h, fun b o h => hb1.frozen (p := ⟨b, o, none⟩) h⟩
  have z1 := hb1.size
  simp at z1
  have z2 : w.heap.size < w1.heap.size := by omega
  go_wp2
  refine bodyPost_ret (v := .tuple #[.agg #[.string f, .string t, .int .i64 p, .int .i64 l, .string s], .int .i64 r]) (by simp [results, Tryd.results53, go_sem, hc1]) rfl ⟨rfl, ?_⟩
  exact below5 (below_then (below_drew ((Below.refl _ _).alloc (Nat.le_refl _) _)) (by simp) (hb1.mono (by simp)))

end Go.Proofs.YtdoefjhdipkkeaaDoor
