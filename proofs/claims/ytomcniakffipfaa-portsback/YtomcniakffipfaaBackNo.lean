/-
  The walk of PortsBack where nothing is written.
-/
import Derived.Test.YtomcniakffipfaaPalive
namespace Go.Proofs.Ytomcniakffipfaa
open Go.RowKit
set_option linter.unusedVariables false
set_option maxRecDepth 10000

set_option maxHeartbeats 400000 in
theorem back_big (f t : ByteArray) (p0 l0 : Int) (s0 : ByteArray) (p a b l k : Int) (s : ByteArray) (w : World) (hs : 3000 < s.size) (hs2 : s.size ≤ 140737488351232) : Calls Try.prog 4 #[.agg #[.string f, .string t, .int .i64 p0, .int .i64 l0, .string s0], .agg #[.int .i64 p, .int .i64 a, .int .i64 b, .int .i64 l, .int .i64 k], .string s] w fun e w' => e = .returned (.bool true) ∧ Below w.heap.size w w' := by
  have d0 : decide (3000 < (s.size : Int)) = true := by simp; omega
  have d1 : decide (3000 < s.size) = true := by simp; omega
  go_enter Try.func4, Try.ntmps4
  go_wp2_with fail
  refine (alive_any _).mono ?_
  rintro e w1 ⟨rfl, hb1⟩
  go_wp2
  go_ret
  exact ⟨rfl, (((Below.refl w.heap.size _).alloc (Nat.le_refl _) _).alloc (by simp) _).trans (hb1.mono (by simp; omega))⟩

attribute [local go_sem ↓] pk_eq
set_option maxHeartbeats 1000000 in
theorem back_no (f t : ByteArray) (p0 l0 : Int) (s0 : ByteArray) (p a b l k : Int) (s : ByteArray) (w : World) (hf : f.size ≤ 140737488351232) (ht : t.size ≤ 140737488351232) (hs : s.size ≤ 3000) (h : ¬ WrOk f t l0 p a b l k s) : Calls Try.prog 4 #[.agg #[.string f, .string t, .int .i64 p0, .int .i64 l0, .string s0], .agg #[.int .i64 p, .int .i64 a, .int .i64 b, .int .i64 l, .int .i64 k], .string s] w fun e w' => e = .returned (.bool true) ∧ Below w.heap.size w w' := by
  have d0 : decide (3000 < (s.size : Int)) = false := by simp; omega
  have d1 : decide (3000 < s.size) = false := by simp; omega
  obtain ⟨r, hr⟩ : ∃ r, r = wrE p := ⟨_, rfl⟩
  have hr0 := wrE_ne p
  rw [← hr] at hr0
  have d2 : (r != 0) = true := by simpa using hr0
  have HE := Lib.hid hr
  have HN := Lib.hid h
  clear hr h
  go_enter Try.func4, Try.ntmps4
  go_wp2_with fail
  refine (write_not f t p0 l0 s0 p a b l k s _ hf ht hs HN.out).mono ?_
  rintro e w1 ⟨rfl, hb1⟩
  rw [← HE.out]
  have HB1 := Lib.hid ((((Below.refl w.heap.size _).alloc (Nat.le_refl _) _).alloc (by simp) _).trans (hb1.mono (by simp; omega)))
  have n1 : w.heap.size ≤ w1.heap.size := HB1.out.size
  clear hb1
  go_wp2_with fail
  refine (alive_any _).mono ?_
  rintro e w2 ⟨rfl, hb2⟩
  obtain ⟨x0, x1, x2, x3, x4⟩ := (Boxed.new w1 ⟨#[]⟩ ⟨#[]⟩ 0 0 ⟨#[]⟩).below hb2 (by simp)
  have n2 : w1.heap.size < w2.heap.size := World.block_lt_of_cell? _ _ x0
  have HB2 := Lib.hid ((HB1.out.alloc n1 _).trans (hb2.mono (by simp; omega)))
  clear hb2
  go_wp2
  go_ret
  exact ⟨by first | rfl | simp, HB2.out⟩

end Go.Proofs.Ytomcniakffipfaa
