/-
  The law's own small play: a probe that rises, a board of two.
-/
import Derived.Test.YtkcndgiiangmjaaHlay
import Derived.Test.YtkcndgiiangmjaaHtell
import Derived.Test.YtkcndgiiangmjaaHmove
namespace Go.Proofs.Ytkcndgiiangmjaa
open Go.RowKit Go.Maps
set_option linter.unusedVariables false
set_option linter.unusedSimpArgs false
set_option maxRecDepth 10000

def ra : Ru := ⟨2, 3, 10⟩
def rb : Ru := ⟨1, 1, 5⟩
theorem ra_ok : okR ra = true := by decide
theorem rb_ok : okR rb = true := by decide
theorem rb_ok2 : (okR rb && inn 2 16) = true := by decide
theorem a1_p : tellP ra ⟨false, 0⟩ true = ⟨false, 1⟩ := by kernel_rfl
theorem a1_c : tellC ra ⟨false, 0⟩ true = false := by decide +kernel
theorem a2_p : tellP ra ⟨false, 1⟩ true = ⟨true, 0⟩ := by kernel_rfl
theorem a2_c : tellC ra ⟨false, 1⟩ true = true := by decide +kernel
theorem a3_d : bmD (laidB 2).s 2 = [0, 1] := by decide +kernel
theorem d01 : decide (([0, 1] : List Int) = [0, 1]) = true := by decide
theorem lit_two (w : World) (x y : Int) : (w.alloc (.cells #[.int .i64 x, .int .i64 y] 3)).ownsRow 0 3 1 (.slice (some ⟨w.heap.size, 0, none⟩) 2 2) 2 (icells [x, y]) := World.ownsRow_lit w #[.int .i64 x, .int .i64 y] 2 (Nat.zero_le _) (by decide) rfl

set_option maxHeartbeats 4000000 in
theorem alive_any (w : World) : Calls Try.prog 11 #[] w fun e w' => e = .returned (.bool true) ∧ Below w.heap.size w w' := by
  have hnew := pnew_any w ra false
  have hlay := fun w => hlay_any w rb 2
  rw [show ruv ra = .agg #[.int .i64 2, .int .i64 3, .int .i64 10] from rfl] at hnew
  simp only [show ruv rb = .agg #[.int .i64 1, .int .i64 1, .int .i64 5] from rfl] at hlay
  have HNEW := Lib.hid hnew
  have HLAY := Lib.hid hlay
  clear hnew hlay
  go_enter Try.func11, Try.ntmps11
  go_wp2_with fail
  refine HNEW.out.mono ?_
  rintro e w1 ⟨hb1, ⟨-, p, rfl, hp, hP⟩ | ⟨h, -⟩⟩
  rotate_left
  · exact absurd h (by decide)
  have HB1 := Lib.hid hb1
  have HP1 := Lib.hid hP
  have HPP := Lib.hid hp
  clear hb1 hP hp
  go_wp2_with fail
  refine (HLAY.out _).mono ?_
  rintro e w2 ⟨hb2, ⟨-, B, F, rfl, hBd, hF⟩ | ⟨h, -⟩⟩
  rotate_left
  · exact absurd h (by decide)
  have HT1 := Lib.hid (tell_any (HP1.out.below hb2) ra_ok (okP_new ra_ok false) true)
  rw [a1_p, a1_c] at HT1
  have HB2 := Lib.hid hb2
  have HBD := Lib.hid hBd
  have HF := Lib.hid hF
  clear hb2 hBd hF
  go_wp2_with fail
  refine HT1.out.mono ?_
  rintro e w3 ⟨rfl, hP3, hO3⟩
  have HT2 := Lib.hid (tell_any hP3 ra_ok (show okP ra ⟨false, 1⟩ from ⟨by decide, by decide⟩) true)
  rw [a2_p, a2_c] at HT2
  have HO3 := Lib.hid hO3
  clear hP3 hO3
  go_wp2_with fail
  refine HT2.out.mono ?_
  rintro e w4 ⟨rfl, hP4, hO4⟩
  have HU := Lib.hid (up_any hP4)
  have hO : Only (fun i => i = p) w2 w4 := HO3.out.trans hO4 fun i hi => .inl hi
  have hplt : p < w1.heap.size := HP1.out.lt
  have hBd4 := HBD.out.only hO fun i hi e => by have := HF.out i hi; omega
  have hmv := bmove_any hBd4 rb_ok (laidB_ok rb_ok (by decide)) 2
  simp only [show (laidB 2).s = (laidB 2).s from rfl, show ((2 : Int)).toNat = 2 from rfl, a3_d] at hmv
  have HMV := Lib.hid hmv
  have HO := Lib.hid hO
  clear hP4 hO4 hO hBd4 hmv hplt
  go_wp2_with fail
  refine HU.out.mono ?_
  rintro e w5 ⟨rfl, rfl⟩
  go_wp2_with fail
  refine HMV.out.mono ?_
  rintro e w5 ⟨v5, F5, rfl, hr5, hv5, hBd5, hF5, hO5⟩
  have hl2 := lit_two w5 0 1
  have hS := same_any (w := w5.alloc (.cells #[.int .i64 0, .int .i64 1] 3)) (xs := [0, 1]) (ys := [0, 1]) (row_below hr5 (below_alloc (Below.refl _ _) _)) hl2 (by decide)
  rw [d01] at hS
  have HS := Lib.hid hS
  have HBD5 := Lib.hid hBd5
  have HX5 := Lib.hid (And.intro hF5 hO5)
  obtain ⟨a5, c5, rfl, -, -⟩ := row_any hr5
  clear hr5 hv5 hBd5 hF5 hO5 hl2 hS
  go_wp2_with fail
  refine HS.out.mono ?_
  rintro e w6 ⟨rfl, q, rfl⟩
  have HUP := Lib.hid (bup_any (HBD5.out.below (below_drewN (below_alloc (Below.refl _ _) (.cells #[.int .i64 0, .int .i64 1] 3)) q)) (by decide))
  go_wp2_with fail
  refine HUP.out.mono ?_
  rintro e w7 ⟨v7, rfl, hr7, hb7⟩
  obtain ⟨a7, c7, rfl, -, -⟩ := row_any hr7
  have hl : (laidB 2).ps.length = 2 := by decide
  have HB7 := Lib.hid hb7
  clear hb7 hr7
  rw [show ((⟨(laidB 2).ps, bmS rb (laidB 2).s 2⟩ : Bo)).ps.length = 2 from rfl]
  go_wp2_with fail
  go_ret
  refine ⟨rfl, ?_⟩
  have b2 : Below w.heap.size w w2 := HB1.out.trans (HB2.out.mono HB1.out.size)
  have b4 := b2.trans (Only.below HO.out b2.size fun i hi => by have := HPP.out; omega)
  have b5 := b4.trans (Only.below HX5.out.2 b4.size fun i hi => by have := HF.out i hi; have := HB1.out.size; omega)
  have b6 := b5.trans ((below_drewN (below_alloc (Below.refl w5.heap.size w5) (.cells #[.int .i64 0, .int .i64 1] 3)) q).mono b5.size)
  exact b6.trans (HB7.out.mono b6.size)

end Go.Proofs.Ytkcndgiiangmjaa
