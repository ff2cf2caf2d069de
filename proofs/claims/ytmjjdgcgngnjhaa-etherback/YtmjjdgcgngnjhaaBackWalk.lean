/-
  The walk of EtherBack.
-/
import Derived.Test.YtmjjdgcgngnjhaaBackWalka
import Derived.Test.YtmjjdgcgngnjhaaBackWalkb
import Derived.Test.YtmjjdgcgngnjhaaBackWalkc
namespace Go.Proofs.Ytmjjdgcgngnjhaa
open Go.ChangeShapes Go.WideShapes Go.ChangeAt Go.RowKit
set_option linter.unusedVariables false


theorem back_walk (a0 a1 a2 a3 a4 a5 a6 a7 a8 a9 a10 a11 t : Int) (s : ByteArray) (a : Option Addr) (n c : Nat) (bs : List Int) (w : World) (q0 : 0 ≤ a0 ∧ a0 ≤ 255) (q1 : 0 ≤ a1 ∧ a1 ≤ 255) (q2 : 0 ≤ a2 ∧ a2 ≤ 255) (q3 : 0 ≤ a3 ∧ a3 ≤ 255) (q4 : 0 ≤ a4 ∧ a4 ≤ 255) (q5 : 0 ≤ a5 ∧ a5 ≤ 255) (q6 : 0 ≤ a6 ∧ a6 ≤ 255) (q7 : 0 ≤ a7 ∧ a7 ≤ 255) (q8 : 0 ≤ a8 ∧ a8 ≤ 255) (q9 : 0 ≤ a9 ∧ a9 ≤ 255) (q10 : 0 ≤ a10 ∧ a10 ≤ 255) (q11 : 0 ≤ a11 ∧ a11 ≤ 255) (ht : (Lit.int .i64 t).wf = true) (hs : s.size ≤ 140737488351232) (hp : Part w ⟨a, n, c, bs⟩) (hc : c ≤ 140737488351232) :
    Calls Try.prog 5 #[.agg #[.int .u8 a0, .int .u8 a1, .int .u8 a2, .int .u8 a3, .int .u8 a4, .int .u8 a5, .int .u8 a6, .int .u8 a7, .int .u8 a8, .int .u8 a9, .int .u8 a10, .int .u8 a11, .int .i64 t, .string s], .slice a n c] w fun e w' => e = .returned (.bool true) ∧ Below w.heap.size w w' := by
  have hnc : n ≤ c := hp.2.1
  by_cases h0 : t < 1536 ∨ 65535 < t ∨ 1500 < s.size
  · by_cases h : n < 14 ∨ 1514 < n
    · exact back_no_short a0 a1 a2 a3 a4 a5 a6 a7 a8 a9 a10 a11 t s a n c bs w hs q0 q1 q2 q3 q4 q5 q6 q7 q8 q9 q10 q11 h0 hp (by omega) h
    · obtain ⟨b, off, x0, x1, x2, x3, x4, x5, x6, x7, x8, x9, x10, x11, x12, x13, r, rfl, rfl, p0, p1, p2, p3, p4, p5, p6, p7, p8, p9, p10, p11, p12, p13⟩ := head_of hp (by omega)
      by_cases hd : x12 * 256 + x13 < 1536
      · exact back_no_low a0 a1 a2 a3 a4 a5 a6 a7 a8 a9 a10 a11 t s b off n c x0 x1 x2 x3 x4 x5 x6 x7 x8 x9 x10 x11 x12 x13 r w hs q0 q1 q2 q3 q4 q5 q6 q7 q8 q9 q10 q11 h0 hp (by omega) hd p0 p1 p2 p3 p4 p5 p6 p7 p8 p9 p10 p11 p12 p13
      · exact back_no_ok a0 a1 a2 a3 a4 a5 a6 a7 a8 a9 a10 a11 t s b off n c x0 x1 x2 x3 x4 x5 x6 x7 x8 x9 x10 x11 x12 x13 r w hs q0 q1 q2 q3 q4 q5 q6 q7 q8 q9 q10 q11 h0 hp (by omega) (by omega) p0 p1 p2 p3 p4 p5 p6 p7 p8 p9 p10 p11 p12 p13
  · have h1 : 1536 ≤ t := by omega
    have h2 : t ≤ 65535 := by omega
    have h3 : s.size ≤ 1500 := by omega
    by_cases h : n < 14 ∨ 1514 < n
    · exact back_yes_short a0 a1 a2 a3 a4 a5 a6 a7 a8 a9 a10 a11 t s a n c bs w hs q0 q1 q2 q3 q4 q5 q6 q7 q8 q9 q10 q11 h1 h2 h3 hp (by omega) h
    · obtain ⟨b, off, x0, x1, x2, x3, x4, x5, x6, x7, x8, x9, x10, x11, x12, x13, r, rfl, rfl, p0, p1, p2, p3, p4, p5, p6, p7, p8, p9, p10, p11, p12, p13⟩ := head_of hp (by omega)
      by_cases hd : x12 * 256 + x13 < 1536
      · exact back_yes_low a0 a1 a2 a3 a4 a5 a6 a7 a8 a9 a10 a11 t s b off n c x0 x1 x2 x3 x4 x5 x6 x7 x8 x9 x10 x11 x12 x13 r w hs q0 q1 q2 q3 q4 q5 q6 q7 q8 q9 q10 q11 h1 h2 h3 hp (by omega) hd p0 p1 p2 p3 p4 p5 p6 p7 p8 p9 p10 p11 p12 p13
      · exact back_yes_ok a0 a1 a2 a3 a4 a5 a6 a7 a8 a9 a10 a11 t s b off n c x0 x1 x2 x3 x4 x5 x6 x7 x8 x9 x10 x11 x12 x13 r w hs q0 q1 q2 q3 q4 q5 q6 q7 q8 q9 q10 q11 h1 h2 h3 hp (by omega) (by omega) p0 p1 p2 p3 p4 p5 p6 p7 p8 p9 p10 p11 p12 p13

end Go.Proofs.Ytmjjdgcgngnjhaa
