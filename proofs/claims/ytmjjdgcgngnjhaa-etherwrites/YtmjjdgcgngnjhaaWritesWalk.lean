/-
  The walk of EtherWrites.
-/
import Derived.Test.YtmjjdgcgngnjhaaFrame
import Derived.Test.YtmjjdgcgngnjhaaRenca
import Derived.Test.YtmjjdgcgngnjhaaRencb
import Derived.Test.YtmjjdgcgngnjhaaRencc
namespace Go.Proofs.Ytmjjdgcgngnjhaa
open Go.ChangeShapes Go.WideShapes Go.ChangeAt Go.RowKit
set_option linter.unusedVariables false


theorem below_two' {w w1 w2 w3 : World} {o : Obj} (h1 : Below (w.alloc o).heap.size (w.alloc o) w1) (h2 : Below w1.heap.size w1 w2) (h3 : Below w2.heap.size w2 w3) : Below w.heap.size w w3 := by
  have a0 : Below w.heap.size w (w.alloc o) := (Below.refl _ _).alloc (Nat.le_refl _) _
  have a1 := below_then a0 a0.size h1
  have a2 := below_then a1 a1.size h2
  exact below_then a2 a2.size h3
theorem rencode_no (a0 a1 a2 a3 a4 a5 a6 a7 a8 a9 a10 a11 t : Int) (s : ByteArray) (w : World) (q0 : 0 ≤ a0 ∧ a0 ≤ 255) (q1 : 0 ≤ a1 ∧ a1 ≤ 255) (q2 : 0 ≤ a2 ∧ a2 ≤ 255) (q3 : 0 ≤ a3 ∧ a3 ≤ 255) (q4 : 0 ≤ a4 ∧ a4 ≤ 255) (q5 : 0 ≤ a5 ∧ a5 ≤ 255) (q6 : 0 ≤ a6 ∧ a6 ≤ 255) (q7 : 0 ≤ a7 ∧ a7 ≤ 255) (q8 : 0 ≤ a8 ∧ a8 ≤ 255) (q9 : 0 ≤ a9 ∧ a9 ≤ 255) (q10 : 0 ≤ a10 ∧ a10 ≤ 255) (q11 : 0 ≤ a11 ∧ a11 ≤ 255) (hs : s.size ≤ 140737488351232) (h : t < 1536 ∨ 65535 < t ∨ 1500 < s.size) :
    Calls Try.prog 11 #[.agg #[.int .u8 a0, .int .u8 a1, .int .u8 a2, .int .u8 a3, .int .u8 a4, .int .u8 a5, .int .u8 a6, .int .u8 a7, .int .u8 a8, .int .u8 a9, .int .u8 a10, .int .u8 a11, .int .i64 t, .string s]] w fun e w' => e = .returned (.tuple #[.slice none 0 0, .int .i64 1]) ∧ Below w.heap.size w w' := by
  by_cases h1 : t < 1536
  · exact rencode_lo a0 a1 a2 a3 a4 a5 a6 a7 a8 a9 a10 a11 t s w q0 q1 q2 q3 q4 q5 q6 q7 q8 q9 q10 q11 h1
  by_cases h2 : 65535 < t
  · exact rencode_hi a0 a1 a2 a3 a4 a5 a6 a7 a8 a9 a10 a11 t s w q0 q1 q2 q3 q4 q5 q6 q7 q8 q9 q10 q11 h2
  exact rencode_big a0 a1 a2 a3 a4 a5 a6 a7 a8 a9 a10 a11 t s w q0 q1 q2 q3 q4 q5 q6 q7 q8 q9 q10 q11 (by omega) (by omega) (by omega) hs

set_option maxHeartbeats 1000000 in
theorem writes_no (a0 a1 a2 a3 a4 a5 a6 a7 a8 a9 a10 a11 t : Int) (s : ByteArray) (w : World) (q0 : 0 ≤ a0 ∧ a0 ≤ 255) (q1 : 0 ≤ a1 ∧ a1 ≤ 255) (q2 : 0 ≤ a2 ∧ a2 ≤ 255) (q3 : 0 ≤ a3 ∧ a3 ≤ 255) (q4 : 0 ≤ a4 ∧ a4 ≤ 255) (q5 : 0 ≤ a5 ∧ a5 ≤ 255) (q6 : 0 ≤ a6 ∧ a6 ≤ 255) (q7 : 0 ≤ a7 ∧ a7 ≤ 255) (q8 : 0 ≤ a8 ∧ a8 ≤ 255) (q9 : 0 ≤ a9 ∧ a9 ≤ 255) (q10 : 0 ≤ a10 ∧ a10 ≤ 255) (q11 : 0 ≤ a11 ∧ a11 ≤ 255) (hs : s.size ≤ 140737488351232) (h : t < 1536 ∨ 65535 < t ∨ 1500 < s.size) :
    Calls Try.prog 3 #[.agg #[.int .u8 a0, .int .u8 a1, .int .u8 a2, .int .u8 a3, .int .u8 a4, .int .u8 a5, .int .u8 a6, .int .u8 a7, .int .u8 a8, .int .u8 a9, .int .u8 a10, .int .u8 a11, .int .i64 t, .string s]] w fun e w' => e = .returned (.bool true) ∧ Below w.heap.size w w' := by
  go_enter Try.func3, Try.ntmps3
  go_wp2_with fail
  refine (encode_no a0 a1 a2 a3 a4 a5 a6 a7 a8 a9 a10 a11 t s _ hs h).mono ?_
  rintro e w1 ⟨rfl, hb1⟩
  obtain ⟨hc1, hf1⟩ := bcell hb1
  go_wp2_with fail
  refine (rencode_no a0 a1 a2 a3 a4 a5 a6 a7 a8 a9 a10 a11 t s _ q0 q1 q2 q3 q4 q5 q6 q7 q8 q9 q10 q11 hs h).mono ?_
  rintro e w2 ⟨rfl, hb2⟩
  go_wp2_with fail
  refine (alive_any _).mono ?_
  rintro e w3 ⟨rfl, hb3⟩
  have hcv : (convert 26 9 (.slice none 0 0)).run Try.prog w3 = .ok (.string (strOfNums [])) w3 := convert_part (Part.gone rfl) 9 Try.underlying9
  go_wp2
  go_ret
  exact ⟨by first | rfl | simp, below_two' hb1 hb2 hb3⟩

set_option maxHeartbeats 1000000 in
theorem writes_yes (a0 a1 a2 a3 a4 a5 a6 a7 a8 a9 a10 a11 t : Int) (s : ByteArray) (w : World) (q0 : 0 ≤ a0 ∧ a0 ≤ 255) (q1 : 0 ≤ a1 ∧ a1 ≤ 255) (q2 : 0 ≤ a2 ∧ a2 ≤ 255) (q3 : 0 ≤ a3 ∧ a3 ≤ 255) (q4 : 0 ≤ a4 ∧ a4 ≤ 255) (q5 : 0 ≤ a5 ∧ a5 ≤ 255) (q6 : 0 ≤ a6 ∧ a6 ≤ 255) (q7 : 0 ≤ a7 ∧ a7 ≤ 255) (q8 : 0 ≤ a8 ∧ a8 ≤ 255) (q9 : 0 ≤ a9 ∧ a9 ≤ 255) (q10 : 0 ≤ a10 ∧ a10 ≤ 255) (q11 : 0 ≤ a11 ∧ a11 ≤ 255) (h1 : 1536 ≤ t) (h2 : t ≤ 65535) (h3 : s.size ≤ 1500) :
    Calls Try.prog 3 #[.agg #[.int .u8 a0, .int .u8 a1, .int .u8 a2, .int .u8 a3, .int .u8 a4, .int .u8 a5, .int .u8 a6, .int .u8 a7, .int .u8 a8, .int .u8 a9, .int .u8 a10, .int .u8 a11, .int .i64 t, .string s]] w fun e w' => e = .returned (.bool true) ∧ Below w.heap.size w w' := by
  go_enter Try.func3, Try.ntmps3
  go_wp2_with fail
  refine (encode_yes a0 a1 a2 a3 a4 a5 a6 a7 a8 a9 a10 a11 t s _ q0 q1 q2 q3 q4 q5 q6 q7 q8 q9 q10 q11 h1 h2 h3).mono ?_
  rintro e w1 ⟨rfl, hp1, hb1⟩
  obtain ⟨hc1, hf1⟩ := bcell hb1
  go_wp2_with fail
  refine (rencode_yes a0 a1 a2 a3 a4 a5 a6 a7 a8 a9 a10 a11 t s _ q0 q1 q2 q3 q4 q5 q6 q7 q8 q9 q10 q11 h1 h2 h3).mono ?_
  rintro e w2 ⟨A, c, rfl, hp2, hb2⟩
  have HP1 := Lib.hid (hp1.out.below hb2)
  have HP2 := Lib.hid hp2
  clear hp1 hp2
  go_wp2_with fail
  refine (alive_any _).mono ?_
  rintro e w3 ⟨rfl, hb3⟩
  have hcv1 := convert_part (HP1.out.below hb3) 9 Try.underlying9
  have hcv2 := convert_part (HP2.out.below hb3) 9 Try.underlying9
  simp only [World.size_alloc] at hcv1
  go_wp2
  go_ret
  exact ⟨by first | rfl | simp, below_two' hb1 hb2 hb3⟩

theorem writes_walk (a0 a1 a2 a3 a4 a5 a6 a7 a8 a9 a10 a11 t : Int) (s : ByteArray) (w : World) (q0 : 0 ≤ a0 ∧ a0 ≤ 255) (q1 : 0 ≤ a1 ∧ a1 ≤ 255) (q2 : 0 ≤ a2 ∧ a2 ≤ 255) (q3 : 0 ≤ a3 ∧ a3 ≤ 255) (q4 : 0 ≤ a4 ∧ a4 ≤ 255) (q5 : 0 ≤ a5 ∧ a5 ≤ 255) (q6 : 0 ≤ a6 ∧ a6 ≤ 255) (q7 : 0 ≤ a7 ∧ a7 ≤ 255) (q8 : 0 ≤ a8 ∧ a8 ≤ 255) (q9 : 0 ≤ a9 ∧ a9 ≤ 255) (q10 : 0 ≤ a10 ∧ a10 ≤ 255) (q11 : 0 ≤ a11 ∧ a11 ≤ 255) (ht : (Lit.int .i64 t).wf = true) (hs : s.size ≤ 140737488351232) :
    Calls Try.prog 3 #[.agg #[.int .u8 a0, .int .u8 a1, .int .u8 a2, .int .u8 a3, .int .u8 a4, .int .u8 a5, .int .u8 a6, .int .u8 a7, .int .u8 a8, .int .u8 a9, .int .u8 a10, .int .u8 a11, .int .i64 t, .string s]] w fun e w' => e = .returned (.bool true) ∧ Below w.heap.size w w' := by
  by_cases h : t < 1536 ∨ 65535 < t ∨ 1500 < s.size
  · exact writes_no a0 a1 a2 a3 a4 a5 a6 a7 a8 a9 a10 a11 t s w q0 q1 q2 q3 q4 q5 q6 q7 q8 q9 q10 q11 hs h
  · exact writes_yes a0 a1 a2 a3 a4 a5 a6 a7 a8 a9 a10 a11 t s w q0 q1 q2 q3 q4 q5 q6 q7 q8 q9 q10 q11 (by omega) (by omega) (by omega)

end Go.Proofs.Ytmjjdgcgngnjhaa
