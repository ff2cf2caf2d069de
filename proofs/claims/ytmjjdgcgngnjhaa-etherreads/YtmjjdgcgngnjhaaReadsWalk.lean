/-
  The walk of EtherReads.
-/
import Derived.Test.YtmjjdgcgngnjhaaDecAny
import Derived.Test.YtmjjdgcgngnjhaaRdeca
import Derived.Test.YtmjjdgcgngnjhaaRdecb
import Derived.Test.YtmjjdgcgngnjhaaRdecc
import Derived.Test.YtmjjdgcgngnjhaaRdecd
namespace Go.Proofs.Ytmjjdgcgngnjhaa
open Go.ChangeShapes Go.WideShapes Go.ChangeAt Go.RowKit
set_option linter.unusedVariables false


theorem rdecode_any (b off n c : Nat) (x0 x1 x2 x3 x4 x5 x6 x7 x8 x9 x10 x11 x12 x13 : Int) (r : List Int) (w : World) (hp : Part w ⟨some ⟨b, off, none⟩, n, c, (x0 :: x1 :: x2 :: x3 :: x4 :: x5 :: x6 :: x7 :: x8 :: x9 :: x10 :: x11 :: x12 :: x13 :: r)⟩) (hn : n ≤ 1514) (ht : 1536 ≤ x12 * 256 + x13) (q0 : 0 ≤ x0 ∧ x0 ≤ 255) (q1 : 0 ≤ x1 ∧ x1 ≤ 255) (q2 : 0 ≤ x2 ∧ x2 ≤ 255) (q3 : 0 ≤ x3 ∧ x3 ≤ 255) (q4 : 0 ≤ x4 ∧ x4 ≤ 255) (q5 : 0 ≤ x5 ∧ x5 ≤ 255) (q6 : 0 ≤ x6 ∧ x6 ≤ 255) (q7 : 0 ≤ x7 ∧ x7 ≤ 255) (q8 : 0 ≤ x8 ∧ x8 ≤ 255) (q9 : 0 ≤ x9 ∧ x9 ≤ 255) (q10 : 0 ≤ x10 ∧ x10 ≤ 255) (q11 : 0 ≤ x11 ∧ x11 ≤ 255) (q12 : 0 ≤ x12 ∧ x12 ≤ 255) (q13 : 0 ≤ x13 ∧ x13 ≤ 255) :
    Calls Try.prog 14 #[.slice (some ⟨b, off, none⟩) n c] w fun e w' => e = .returned (.tuple #[.agg #[.int .u8 x0, .int .u8 x1, .int .u8 x2, .int .u8 x3, .int .u8 x4, .int .u8 x5, .int .u8 x6, .int .u8 x7, .int .u8 x8, .int .u8 x9, .int .u8 x10, .int .u8 x11, .int .i64 (x12 * 256 + x13), .string (strOfNums r)], .int .i64 0]) ∧ Below w.heap.size w w' := by
  have hlen : 14 + r.length = n := by have : (x0 :: x1 :: x2 :: x3 :: x4 :: x5 :: x6 :: x7 :: x8 :: x9 :: x10 :: x11 :: x12 :: x13 :: r).length = n := hp.1; simp at this; omega
  have hnc : n ≤ c := hp.2.1
  by_cases hc : c = 14
  · obtain rfl : n = 14 := by omega
    subst hc
    exact rdecode_ok14 b off x0 x1 x2 x3 x4 x5 x6 x7 x8 x9 x10 x11 x12 x13 r w hp ht q0 q1 q2 q3 q4 q5 q6 q7 q8 q9 q10 q11 q12 q13
  · exact rdecode_ok b off n c x0 x1 x2 x3 x4 x5 x6 x7 x8 x9 x10 x11 x12 x13 r w hp hn (by omega) ht q0 q1 q2 q3 q4 q5 q6 q7 q8 q9 q10 q11 q12 q13
theorem rdecode_low_any (b off n c : Nat) (x0 x1 x2 x3 x4 x5 x6 x7 x8 x9 x10 x11 x12 x13 : Int) (r : List Int) (w : World) (hp : Part w ⟨some ⟨b, off, none⟩, n, c, (x0 :: x1 :: x2 :: x3 :: x4 :: x5 :: x6 :: x7 :: x8 :: x9 :: x10 :: x11 :: x12 :: x13 :: r)⟩) (hn : n ≤ 1514) (ht : x12 * 256 + x13 < 1536) (q0 : 0 ≤ x0 ∧ x0 ≤ 255) (q1 : 0 ≤ x1 ∧ x1 ≤ 255) (q2 : 0 ≤ x2 ∧ x2 ≤ 255) (q3 : 0 ≤ x3 ∧ x3 ≤ 255) (q4 : 0 ≤ x4 ∧ x4 ≤ 255) (q5 : 0 ≤ x5 ∧ x5 ≤ 255) (q6 : 0 ≤ x6 ∧ x6 ≤ 255) (q7 : 0 ≤ x7 ∧ x7 ≤ 255) (q8 : 0 ≤ x8 ∧ x8 ≤ 255) (q9 : 0 ≤ x9 ∧ x9 ≤ 255) (q10 : 0 ≤ x10 ∧ x10 ≤ 255) (q11 : 0 ≤ x11 ∧ x11 ≤ 255) (q12 : 0 ≤ x12 ∧ x12 ≤ 255) (q13 : 0 ≤ x13 ∧ x13 ≤ 255) :
    Calls Try.prog 14 #[.slice (some ⟨b, off, none⟩) n c] w fun e w' => e = .returned (.tuple #[.agg #[.int .u8 0, .int .u8 0, .int .u8 0, .int .u8 0, .int .u8 0, .int .u8 0, .int .u8 0, .int .u8 0, .int .u8 0, .int .u8 0, .int .u8 0, .int .u8 0, .int .i64 0, .string ⟨#[]⟩], .int .i64 1]) ∧ Below w.heap.size w w' := by
  have hlen : 14 + r.length = n := by have : (x0 :: x1 :: x2 :: x3 :: x4 :: x5 :: x6 :: x7 :: x8 :: x9 :: x10 :: x11 :: x12 :: x13 :: r).length = n := hp.1; simp at this; omega
  have hnc : n ≤ c := hp.2.1
  by_cases hc : c = 14
  · obtain rfl : n = 14 := by omega
    subst hc
    exact rdecode_low14 b off x0 x1 x2 x3 x4 x5 x6 x7 x8 x9 x10 x11 x12 x13 r w hp ht q0 q1 q2 q3 q4 q5 q6 q7 q8 q9 q10 q11 q12 q13
  · exact rdecode_low b off n c x0 x1 x2 x3 x4 x5 x6 x7 x8 x9 x10 x11 x12 x13 r w hp hn (by omega) ht q0 q1 q2 q3 q4 q5 q6 q7 q8 q9 q10 q11 q12 q13

attribute [local go_sem ↓] frame_eq25

theorem below_two {w w1 w2 w3 : World} {o1 o2 : Obj} (h1 : Below w.heap.size w w1) (h2 : Below (w1.alloc o1).heap.size (w1.alloc o1) w2) (h3 : Below (w2.alloc o2).heap.size (w2.alloc o2) w3) : Below w.heap.size w w3 := by
  have a1 : Below w.heap.size w (w1.alloc o1) := h1.alloc h1.size _
  have a2 : Below w.heap.size w (w2.alloc o2) := below_alloc (below_then a1 a1.size h2) _
  exact below_then a2 a2.size h3

set_option maxHeartbeats 1000000 in
theorem reads_short (a : Option Addr) (n c : Nat) (bs : List Int) (w : World) (hp : Part w ⟨a, n, c, bs⟩) (hn : n ≤ 140737488351232) (h : n < 14 ∨ 1514 < n) :
    Calls Try.prog 4 #[.slice a n c] w fun e w' => e = .returned (.bool true) ∧ Below w.heap.size w w' := by
  have HP := Lib.hid hp
  clear hp
  go_enter Try.func4, Try.ntmps4
  go_wp2_with fail
  refine (decode_short a n c _ hn h).mono ?_
  rintro e w1 ⟨rfl, hb1⟩
  have HP1 := Lib.hid (HP.out.below hb1)
  go_wp2_with fail
  refine (rdecode_short a n c _ hn h).mono ?_
  rintro e w2 ⟨rfl, hb2⟩
  obtain ⟨hc2, hf2⟩ := bcell hb2
  have z2 := hb2.size
  simp at z2
  go_wp2_with fail
  refine (alive_any _).mono ?_
  rintro e w3 ⟨rfl, hb3⟩
  obtain ⟨hc3, hf3⟩ := bcell hb3
  have y1 : w1.heap.size < w2.heap.size := by omega
  have y2 : w1.heap.size < w2.heap.size + 1 := by omega
  go_wp2
  go_ret
  exact ⟨by first | rfl | simp, below_two hb1 hb2 hb3⟩

set_option maxHeartbeats 1000000 in
theorem reads_low (b off n c : Nat) (x0 x1 x2 x3 x4 x5 x6 x7 x8 x9 x10 x11 x12 x13 : Int) (r : List Int) (w : World) (hp : Part w ⟨some ⟨b, off, none⟩, n, c, (x0 :: x1 :: x2 :: x3 :: x4 :: x5 :: x6 :: x7 :: x8 :: x9 :: x10 :: x11 :: x12 :: x13 :: r)⟩) (hn : n ≤ 1514) (ht : x12 * 256 + x13 < 1536) (q0 : 0 ≤ x0 ∧ x0 ≤ 255) (q1 : 0 ≤ x1 ∧ x1 ≤ 255) (q2 : 0 ≤ x2 ∧ x2 ≤ 255) (q3 : 0 ≤ x3 ∧ x3 ≤ 255) (q4 : 0 ≤ x4 ∧ x4 ≤ 255) (q5 : 0 ≤ x5 ∧ x5 ≤ 255) (q6 : 0 ≤ x6 ∧ x6 ≤ 255) (q7 : 0 ≤ x7 ∧ x7 ≤ 255) (q8 : 0 ≤ x8 ∧ x8 ≤ 255) (q9 : 0 ≤ x9 ∧ x9 ≤ 255) (q10 : 0 ≤ x10 ∧ x10 ≤ 255) (q11 : 0 ≤ x11 ∧ x11 ≤ 255) (q12 : 0 ≤ x12 ∧ x12 ≤ 255) (q13 : 0 ≤ x13 ∧ x13 ≤ 255) :
    Calls Try.prog 4 #[.slice (some ⟨b, off, none⟩) n c] w fun e w' => e = .returned (.bool true) ∧ Below w.heap.size w w' := by
  have HP := Lib.hid hp
  clear hp
  go_enter Try.func4, Try.ntmps4
  go_wp2_with fail
  refine (decode_low b off n c x0 x1 x2 x3 x4 x5 x6 x7 x8 x9 x10 x11 x12 x13 r _ HP.out hn ht q0 q1 q2 q3 q4 q5 q6 q7 q8 q9 q10 q11 q12 q13).mono ?_
  rintro e w1 ⟨rfl, hb1⟩
  have HP1 := Lib.hid (HP.out.below hb1)
  go_wp2_with fail
  refine (rdecode_low_any b off n c x0 x1 x2 x3 x4 x5 x6 x7 x8 x9 x10 x11 x12 x13 r _ (HP1.out.alloc _) hn ht q0 q1 q2 q3 q4 q5 q6 q7 q8 q9 q10 q11 q12 q13).mono ?_
  rintro e w2 ⟨rfl, hb2⟩
  obtain ⟨hc2, hf2⟩ := bcell hb2
  have z2 := hb2.size
  simp at z2
  go_wp2_with fail
  refine (alive_any _).mono ?_
  rintro e w3 ⟨rfl, hb3⟩
  obtain ⟨hc3, hf3⟩ := bcell hb3
  have y1 : w1.heap.size < w2.heap.size := by omega
  have y2 : w1.heap.size < w2.heap.size + 1 := by omega
  go_wp2
  go_ret
  exact ⟨by first | rfl | simp, below_two hb1 hb2 hb3⟩

set_option maxHeartbeats 1000000 in
theorem reads_ok (b off n c : Nat) (x0 x1 x2 x3 x4 x5 x6 x7 x8 x9 x10 x11 x12 x13 : Int) (r : List Int) (w : World) (hp : Part w ⟨some ⟨b, off, none⟩, n, c, (x0 :: x1 :: x2 :: x3 :: x4 :: x5 :: x6 :: x7 :: x8 :: x9 :: x10 :: x11 :: x12 :: x13 :: r)⟩) (hn : n ≤ 1514) (ht : 1536 ≤ x12 * 256 + x13) (q0 : 0 ≤ x0 ∧ x0 ≤ 255) (q1 : 0 ≤ x1 ∧ x1 ≤ 255) (q2 : 0 ≤ x2 ∧ x2 ≤ 255) (q3 : 0 ≤ x3 ∧ x3 ≤ 255) (q4 : 0 ≤ x4 ∧ x4 ≤ 255) (q5 : 0 ≤ x5 ∧ x5 ≤ 255) (q6 : 0 ≤ x6 ∧ x6 ≤ 255) (q7 : 0 ≤ x7 ∧ x7 ≤ 255) (q8 : 0 ≤ x8 ∧ x8 ≤ 255) (q9 : 0 ≤ x9 ∧ x9 ≤ 255) (q10 : 0 ≤ x10 ∧ x10 ≤ 255) (q11 : 0 ≤ x11 ∧ x11 ≤ 255) (q12 : 0 ≤ x12 ∧ x12 ≤ 255) (q13 : 0 ≤ x13 ∧ x13 ≤ 255) :
    Calls Try.prog 4 #[.slice (some ⟨b, off, none⟩) n c] w fun e w' => e = .returned (.bool true) ∧ Below w.heap.size w w' := by
  have HP := Lib.hid hp
  clear hp
  go_enter Try.func4, Try.ntmps4
  go_wp2_with fail
  refine (decode_any b off n c x0 x1 x2 x3 x4 x5 x6 x7 x8 x9 x10 x11 x12 x13 r _ HP.out hn ht q0 q1 q2 q3 q4 q5 q6 q7 q8 q9 q10 q11 q12 q13).mono ?_
  rintro e w1 ⟨rfl, hb1⟩
  have HP1 := Lib.hid (HP.out.below hb1)
  go_wp2_with fail
  refine (rdecode_any b off n c x0 x1 x2 x3 x4 x5 x6 x7 x8 x9 x10 x11 x12 x13 r _ (HP1.out.alloc _) hn ht q0 q1 q2 q3 q4 q5 q6 q7 q8 q9 q10 q11 q12 q13).mono ?_
  rintro e w2 ⟨rfl, hb2⟩
  obtain ⟨hc2, hf2⟩ := bcell hb2
  have z2 := hb2.size
  simp at z2
  go_wp2_with fail
  refine (alive_any _).mono ?_
  rintro e w3 ⟨rfl, hb3⟩
  obtain ⟨hc3, hf3⟩ := bcell hb3
  have y1 : w1.heap.size < w2.heap.size := by omega
  have y2 : w1.heap.size < w2.heap.size + 1 := by omega
  go_wp2
  go_ret
  exact ⟨by first | rfl | simp, below_two hb1 hb2 hb3⟩

theorem reads_walk (a : Option Addr) (n c : Nat) (bs : List Int) (w : World) (hp : Part w ⟨a, n, c, bs⟩) (hc : c ≤ 140737488351232) :
    Calls Try.prog 4 #[.slice a n c] w fun e w' => e = .returned (.bool true) ∧ Below w.heap.size w w' := by
  have hnc : n ≤ c := hp.2.1
  by_cases h : n < 14 ∨ 1514 < n
  · exact reads_short a n c bs w hp (by omega) h
  · obtain ⟨b, off, x0, x1, x2, x3, x4, x5, x6, x7, x8, x9, x10, x11, x12, x13, r, rfl, rfl, q0, q1, q2, q3, q4, q5, q6, q7, q8, q9, q10, q11, q12, q13⟩ := head_of hp (by omega)
    by_cases ht : x12 * 256 + x13 < 1536
    · exact reads_low b off n c x0 x1 x2 x3 x4 x5 x6 x7 x8 x9 x10 x11 x12 x13 r w hp (by omega) ht q0 q1 q2 q3 q4 q5 q6 q7 q8 q9 q10 q11 q12 q13
    · exact reads_ok b off n c x0 x1 x2 x3 x4 x5 x6 x7 x8 x9 x10 x11 x12 x13 r w hp (by omega) (by omega) q0 q1 q2 q3 q4 q5 q6 q7 q8 q9 q10 q11 q12 q13

end Go.Proofs.Ytmjjdgcgngnjhaa
