/-
  The law's own small play: timers that are due.
-/
import Derived.Test.YthddphgeepgidaaDoes
import Derived.Test.YthddphgeepgidaaSame
import Derived.Test.YthddphgeepgidaaNew
namespace Go.Proofs.Ythddphgeepgidaa
open Go.RowKit Go.Maps
set_option linter.unusedVariables false
set_option linter.unusedSimpArgs false
set_option maxRecDepth 10000

def s1 : St := ⟨0, setL [] 7 5⟩
def s2 : St := ⟨0, setL s1.l 3 5⟩
def s3 : St := ⟨0, setL s2.l 9 2⟩
theorem s3_is : s3.l = [⟨9, 2⟩, ⟨3, 5⟩, ⟨7, 5⟩] := by kernel_rfl
theorem m4_d : mvD s3.l 0 4 = [9] := by decide +kernel
theorem m4_l : mvL s3.l 0 4 = [⟨3, 5⟩, ⟨7, 5⟩] := by rw [s3_is]; rfl
theorem m4_n : mvN 0 4 = 4 := by decide +kernel
theorem m100_d : mvD [⟨3, 5⟩, ⟨7, 5⟩] 4 100 = [3, 7] := by decide +kernel
theorem m100_l : mvL [⟨3, 5⟩, ⟨7, 5⟩] 4 100 = [] := by rfl
theorem m100_n : mvN 4 100 = 100 := by decide +kernel

theorem fit0 : OkS ⟨0, []⟩ 0 := ⟨Fit.nil, by decide, by decide⟩
theorem ok1 : OkS s1 1 := ⟨show Fit (setL [] 7 5) from setL_fit Fit.nil _ _, by decide, show (setL [] 7 5).length ≤ 1 from setL_len [] 7 5⟩
theorem ok2 : OkS s2 2 := ⟨show Fit (setL s1.l 3 5) from setL_fit ok1.fit _ _, by decide, show (setL s1.l 3 5).length ≤ 2 from Nat.le_trans (setL_len s1.l 3 5) (by have := ok1.len; omega)⟩
theorem ok3 : OkS s3 3 := ⟨show Fit (setL s2.l 9 2) from setL_fit ok2.fit _ _, by decide, show (setL s2.l 9 2).length ≤ 3 from Nat.le_trans (setL_len s2.l 9 2) (by have := ok2.len; omega)⟩
theorem d9 : decide (([9] : List Int) = [9]) = true := by decide
theorem d37 : decide (([3, 7] : List Int) = [3, 7]) = true := by decide
theorem lit_one (w : World) (x : Int) : (w.alloc (.cells #[.int .i64 x] 3)).ownsRow 0 3 1 (.slice (some ⟨w.heap.size, 0, none⟩) 1 1) 1 (icells [x]) := World.ownsRow_lit w #[.int .i64 x] 1 (Nat.zero_le _) (by decide) rfl
theorem lit_two (w : World) (x y : Int) : (w.alloc (.cells #[.int .i64 x, .int .i64 y] 3)).ownsRow 0 3 1 (.slice (some ⟨w.heap.size, 0, none⟩) 2 2) 2 (icells [x, y]) := World.ownsRow_lit w #[.int .i64 x, .int .i64 y] 2 (Nat.zero_le _) (by decide) rfl

set_option maxHeartbeats 2000000 in
theorem alive_any (w : World) : Calls Try.prog 10 #[] w fun e w' => e = .returned (.bool true) ∧ Below w.heap.size w w' := by
  have HN := Lib.hid (new_any w)
  go_enter Try.func10, Try.ntmps10
  go_wp2_with fail
  refine HN.out.mono ?_
  rintro e w0 ⟨B, F0, rfl, hW0, hF0, hb0⟩
  have HB0 := Lib.hid hb0
  have HF0 := Lib.hid hF0
  have HC1 := Lib.hid (set_any (x := 7) (a := 5) hW0 Fit.nil (by decide) (by decide))
  clear hW0 hF0 hb0
  go_wp2_with fail
  refine HC1.out.mono ?_
  rintro e w1 ⟨rfl, F1, hW1, hF1, hO1⟩
  have HX1 := Lib.hid (And.intro hF1 hO1)
  have HC2 := Lib.hid (set_any (x := 3) (a := 5) (L := s1.l) hW1 ok1.fit (by decide) (by have := ok1.len; omega))
  clear hW1 hF1 hO1
  go_wp2_with fail
  refine HC2.out.mono ?_
  rintro e w2 ⟨rfl, F2, hW2, hF2, hO2⟩
  have HX2 := Lib.hid (And.intro hF2 hO2)
  have HC3 := Lib.hid (set_any (x := 9) (a := 2) (L := s2.l) hW2 ok2.fit (by decide) (by have := ok2.len; omega))
  clear hW2 hF2 hO2
  go_wp2_with fail
  refine HC3.out.mono ?_
  rintro e w3 ⟨rfl, F3, hW3, hF3, hO3⟩
  have HX3 := Lib.hid (And.intro hF3 hO3)
  have hM4 := move_any (x := 4) (s := s3) hW3 (ok3.mono (by omega))
  have hok4 := ok3.move 4
  simp only [show s3.now = 0 from rfl, m4_d, m4_l, m4_n] at hM4 hok4
  have HM4 := Lib.hid hM4
  have HOK4 := Lib.hid hok4
  clear hW3 hF3 hO3 hM4 hok4
  go_wp2_with fail
  refine HM4.out.mono ?_
  rintro e w4 ⟨v4, F4, rfl, hr4, hv4, hW4, hF4, hO4⟩
  have HX4 := Lib.hid (And.intro hF4 (And.intro hO4 (And.intro hr4 hv4)))
  have hM5 := move_any (x := 100) (s := ⟨4, [⟨3, 5⟩, ⟨7, 5⟩]⟩) hW4 (HOK4.out.mono (by omega))
  simp only [m100_d, m100_l, m100_n] at hM5
  have HM5 := Lib.hid hM5
  clear hW4 hF4 hO4 hr4 hv4 hM5
  go_wp2_with fail
  refine HM5.out.mono ?_
  rintro e w5 ⟨v5, F5, rfl, hr5, hv5, hW5, hF5, hO5⟩
  have HX5 := Lib.hid (And.intro hF5 (And.intro hO5 (And.intro hr5 hv5)))
  have HW5 := Lib.hid hW5
  clear hW5 hF5 hO5 hr5 hv5
  have hr4 := row_only HX4.out.2.2.1 HX5.out.2.1 HX4.out.2.2.2
  have hS4 := same_any (w := w5.alloc (.cells #[.int .i64 9] 3)) (xs := [9]) (ys := [9]) (row_below hr4 (below_alloc (Below.refl _ _) _)) (lit_one w5 9) (by decide)
  rw [d9] at hS4
  have HS4 := Lib.hid hS4
  clear hr4 hS4
  go_wp2_with fail
  refine HS4.out.mono ?_
  rintro e w6 ⟨rfl, q, rfl⟩
  go_wp2_with fail
  have hb6 : Below w5.heap.size w5 (((w5.alloc (.cells #[.int .i64 9] 3)).drewN q).alloc (.cells #[.int .i64 3, .int .i64 7] 3)) := below_alloc (below_drewN (below_alloc (Below.refl _ _) _) _) _
  have hl2 : (((w5.alloc (.cells #[.int .i64 9] 3)).drewN q).alloc (.cells #[.int .i64 3, .int .i64 7] 3)).ownsRow 0 3 1 (.slice (some ⟨w5.heap.size + 1, 0, none⟩) 2 2) 2 (icells [3, 7]) := by
    have := lit_two ((w5.alloc (.cells #[.int .i64 9] 3)).drewN q) 3 7
    have e : ((w5.alloc (.cells #[.int .i64 9] 3)).drewN q).heap.size = w5.heap.size + 1 := by simp [World.drewN]
    rwa [e] at this
  have hS5 := same_any (xs := [3, 7]) (ys := [3, 7]) (row_below HX5.out.2.2.1 hb6) hl2 (by decide)
  rw [d37] at hS5
  have HS5 := Lib.hid hS5
  have HB6 := Lib.hid hb6
  clear hS5 hl2 hb6
  go_wp2_with fail
  refine HS5.out.mono ?_
  rintro e w7 ⟨rfl, q2, rfl⟩
  have HNO := Lib.hid (now_any (HW5.out.below (below_drewN HB6.out q2)))
  have HLE := Lib.hid (len_any (HW5.out.below (below_drewN HB6.out q2)))
  go_wp2_with fail
  refine HNO.out.mono ?_
  rintro e w8 ⟨rfl, rfl⟩
  go_wp2_with fail
  refine HLE.out.mono ?_
  rintro e w8 ⟨rfl, rfl⟩
  go_wp2_with fail
  go_ret
  refine ⟨rfl, ?_⟩
  have o1 : Only F0 w0 w1 := HX1.out.2
  have o2 : Only F0 w0 w2 := o1.trans HX2.out.2 HX1.out.1
  have f2 : ∀ i, F2 i → F0 i ∨ w0.heap.size ≤ i := fun i hi => by
    rcases HX2.out.1 i hi with h | h
    · exact HX1.out.1 i h
    · exact .inr (Nat.le_trans o1.size h)
  have o3 : Only F0 w0 w3 := o2.trans HX3.out.2 f2
  have f3 : ∀ i, F3 i → F0 i ∨ w0.heap.size ≤ i := fun i hi => by
    rcases HX3.out.1 i hi with h | h
    · exact f2 i h
    · exact .inr (Nat.le_trans o2.size h)
  have o4 : Only F0 w0 w4 := o3.trans HX4.out.2.1 f3
  have f4 : ∀ i, F4 i → F0 i ∨ w0.heap.size ≤ i := fun i hi => by
    rcases HX4.out.1 i hi with h | h
    · exact f3 i h
    · exact .inr (Nat.le_trans o3.size h)
  have o5 : Only F0 w0 w5 := o4.trans HX5.out.2.1 f4
  have b5 : Below w.heap.size w w5 := HB0.out.trans (o5.below HB0.out.size HF0.out)
  exact below_drewN (b5.trans (HB6.out.mono b5.size)) _

end Go.Proofs.Ythddphgeepgidaa
