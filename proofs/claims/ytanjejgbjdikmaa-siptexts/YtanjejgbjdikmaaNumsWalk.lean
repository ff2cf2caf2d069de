/-
  What the function of SipNumbers does, whatever two numbers it is given.
-/
import Derived.Test.YtanjejgbjdikmaaFrame
namespace Go.Proofs.Ytanjejgbjdikmaa
open Go.RowKit
set_option linter.unusedVariables false
set_option maxRecDepth 10000

theorem list8 (l : List Int) (h : l.length = 8) : ∃ x0 x1 x2 x3 x4 x5 x6 x7, l = [x0, x1, x2, x3, x4, x5, x6, x7] := by
  match l, h with
  | [x0, x1, x2, x3, x4, x5, x6, x7], _ => exact ⟨x0, x1, x2, x3, x4, x5, x6, x7, rfl⟩
theorem nk_eq (a b : Int) (ha : U a) (hb : U b) : (nk a == nk b) = (a == b) := by
  rw [Bool.eq_iff_iff, beq_iff_eq, beq_iff_eq]
  constructor
  · intro h
    have h8 : byts a 8 = byts b 8 := List.append_cancel_right h
    have h9 := congrArg num h8
    unfold U at ha hb
    rw [num_byts a ha.1, num_byts b hb.1] at h9
    have e : (256 : Int) ^ 8 = 18446744073709551616 := by decide
    rw [e] at h9
    omega
  · rintro rfl; rfl

set_option maxHeartbeats 4000000 in
theorem numbers_walk (a b : Int) (w : World) (ha : U a) (hb : U b) : Calls Try.prog 6 #[.int .u64 a, .int .u64 b] w fun e w' => e = .returned (.bool true) ∧ Below w.heap.size w w' := by
  have H1 := Lib.hid (fun w => Number_any a w ha)
  have H2 := Lib.hid (fun w => Number_any b w hb)
  have HE := fun w => key_eq (nk a) (nk b) w (nk_key a).1 (nk_key b).1
  simp only [nk_eq a b ha hb] at HE
  obtain ⟨r, hr⟩ : ∃ r, (a == b) = r := ⟨_, rfl⟩
  simp only [hr] at HE
  obtain ⟨p0, p1, p2, p3, p4, p5, p6, p7, hp⟩ := list8 (byts a 8) (byts_len a 8)
  obtain ⟨q0, q1, q2, q3, q4, q5, q6, q7, hq⟩ := list8 (byts b 8) (byts_len b 8)
  have ea : kv (nk a) = .agg #[.int .u8 p0, .int .u8 p1, .int .u8 p2, .int .u8 p3, .int .u8 p4, .int .u8 p5, .int .u8 p6, .int .u8 p7, .int .u8 0, .int .u8 0, .int .u8 0, .int .u8 0, .int .u8 0, .int .u8 0, .int .u8 0, .int .u8 0] := by unfold nk; rw [hp]; rfl
  have eb : kv (nk b) = .agg #[.int .u8 q0, .int .u8 q1, .int .u8 q2, .int .u8 q3, .int .u8 q4, .int .u8 q5, .int .u8 q6, .int .u8 q7, .int .u8 0, .int .u8 0, .int .u8 0, .int .u8 0, .int .u8 0, .int .u8 0, .int .u8 0, .int .u8 0] := by unfold nk; rw [hq]; rfl
  rw [ea, eb] at HE
  rw [ea] at H1
  rw [eb] at H2
  clear ea eb hp hq ha hb
  go_enter Try.func6, Try.ntmps6
  go_wp2_with fail
  refine (H1.out _).mono ?_
  rintro e w1 ⟨rfl, hb1⟩
  go_wp2_with fail
  refine (H2.out _).mono ?_
  rintro e w2 ⟨rfl, hb2⟩
  have HB2 : Hid (Below w.heap.size w w2) := Lib.hid (below_then hb1 hb1.size hb2)
  clear hb1 hb2
  have hX : Hid (Ar ((w2.alloc (.cells #[.int .u8 p0, .int .u8 p1, .int .u8 p2, .int .u8 p3, .int .u8 p4, .int .u8 p5, .int .u8 p6, .int .u8 p7, .int .u8 0, .int .u8 0, .int .u8 0, .int .u8 0, .int .u8 0, .int .u8 0, .int .u8 0, .int .u8 0] 33)).alloc (.cells #[.int .u8 q0, .int .u8 q1, .int .u8 q2, .int .u8 q3, .int .u8 q4, .int .u8 q5, .int .u8 q6, .int .u8 q7, .int .u8 0, .int .u8 0, .int .u8 0, .int .u8 0, .int .u8 0, .int .u8 0, .int .u8 0, .int .u8 0] 33)) w2.heap.size (cel [p0, p1, p2, p3, p4, p5, p6, p7, 0, 0, 0, 0, 0, 0, 0, 0])) := Lib.hid ((ar_new w2 [p0, p1, p2, p3, p4, p5, p6, p7, 0, 0, 0, 0, 0, 0, 0, 0] 33).alloc _)
  have hY : Hid (Ar ((w2.alloc (.cells #[.int .u8 p0, .int .u8 p1, .int .u8 p2, .int .u8 p3, .int .u8 p4, .int .u8 p5, .int .u8 p6, .int .u8 p7, .int .u8 0, .int .u8 0, .int .u8 0, .int .u8 0, .int .u8 0, .int .u8 0, .int .u8 0, .int .u8 0] 33)).alloc (.cells #[.int .u8 q0, .int .u8 q1, .int .u8 q2, .int .u8 q3, .int .u8 q4, .int .u8 q5, .int .u8 q6, .int .u8 q7, .int .u8 0, .int .u8 0, .int .u8 0, .int .u8 0, .int .u8 0, .int .u8 0, .int .u8 0, .int .u8 0] 33)) (w2.heap.size + 1) (cel [q0, q1, q2, q3, q4, q5, q6, q7, 0, 0, 0, 0, 0, 0, 0, 0])) := Lib.hid (by
    have := ar_new (w2.alloc (.cells #[.int .u8 p0, .int .u8 p1, .int .u8 p2, .int .u8 p3, .int .u8 p4, .int .u8 p5, .int .u8 p6, .int .u8 p7, .int .u8 0, .int .u8 0, .int .u8 0, .int .u8 0, .int .u8 0, .int .u8 0, .int .u8 0, .int .u8 0] 33)) [q0, q1, q2, q3, q4, q5, q6, q7, 0, 0, 0, 0, 0, 0, 0, 0] 33
    rwa [World.size_alloc] at this)
  have hZ : Hid (∀ j : Nat, j < 8 → ((w2.alloc (.cells #[.int .u8 p0, .int .u8 p1, .int .u8 p2, .int .u8 p3, .int .u8 p4, .int .u8 p5, .int .u8 p6, .int .u8 p7, .int .u8 0, .int .u8 0, .int .u8 0, .int .u8 0, .int .u8 0, .int .u8 0, .int .u8 0, .int .u8 0] 33)).alloc (.cells #[.int .u8 q0, .int .u8 q1, .int .u8 q2, .int .u8 q3, .int .u8 q4, .int .u8 q5, .int .u8 q6, .int .u8 q7, .int .u8 0, .int .u8 0, .int .u8 0, .int .u8 0, .int .u8 0, .int .u8 0, .int .u8 0, .int .u8 0] 33)).cell? ⟨w2.heap.size, 8 + j, none⟩ = some (.int .u8 0)) := Lib.hid (fun j hj => by
    have h := (ar_byte hX.out (8 + j) (by simp; omega)).1
    rw [h]
    have : j = 0 ∨ j = 1 ∨ j = 2 ∨ j = 3 ∨ j = 4 ∨ j = 5 ∨ j = 6 ∨ j = 7 := by omega
    rcases this with rfl | rfl | rfl | rfl | rfl | rfl | rfl | rfl <;> rfl)
  go_wp2
  go_loopg [15] 8 (fun gg i wr => ∃ j : Nat, j + gg = 8 ∧ i = .int .i64 j ∧ wr = (w2.alloc (.cells #[.int .u8 p0, .int .u8 p1, .int .u8 p2, .int .u8 p3, .int .u8 p4, .int .u8 p5, .int .u8 p6, .int .u8 p7, .int .u8 0, .int .u8 0, .int .u8 0, .int .u8 0, .int .u8 0, .int .u8 0, .int .u8 0, .int .u8 0] 33)).alloc (.cells #[.int .u8 q0, .int .u8 q1, .int .u8 q2, .int .u8 q3, .int .u8 q4, .int .u8 q5, .int .u8 q6, .int .u8 q7, .int .u8 0, .int .u8 0, .int .u8 0, .int .u8 0, .int .u8 0, .int .u8 0, .int .u8 0, .int .u8 0] 33))
  case atStart => exact ⟨0, by omega, rfl, rfl⟩
  case round =>
    obtain ⟨j, hj, rfl, rfl⟩ := hrel
    rcases gk with _ | og
    · have hkl : ¬ (j : Int) < 8 := by omega
      go_wp2_with fail
      refine (alive_any _).mono ?_
      rintro e w3 ⟨rfl, hb3⟩
      have HX := Lib.hid (hX.out.below hb3)
      have HY := Lib.hid (hY.out.below hb3)
      have HB3 : Hid (Below w.heap.size w w3) := Lib.hid (below_then ((HB2.out.alloc HB2.out.size _).alloc (by have := HB2.out.size; simp; omega) _) (by have := HB2.out.size; simp; omega) hb3)
      clear hX hY hZ hb3
      obtain ⟨c0, c1, c2, c3, c4, c5, c6, c7, c8, c9, c10, c11, c12, c13, c14, c15⟩ := ar16 HX.out
      obtain ⟨d0, d1, d2, d3, d4, d5, d6, d7, d8, d9, d10, d11, d12, d13, d14, d15⟩ := ar16 HY.out
      go_wp2
      try rw [Exit.noGoto_ret]
      go_ret
      exact ⟨by simp, HB3.out⟩
    · have hkl : (j : Int) < 8 := by omega
      have hz0 := hZ.out j (by omega)
      go_wp2
      go_roundg og
      case measure => omega
      case rel => exact ⟨j + 1, by omega, by simp, rfl⟩

end Go.Proofs.Ytanjejgbjdikmaa
