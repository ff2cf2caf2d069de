/-
  What ports.quotedFour and quotedSix do.
-/
import Derived.Test.YtomcniakffipfaaDoorQerr
namespace Go.Proofs.YtomcniakffipfaaDoor
open Go.RowKit
set_option linter.unusedVariables false
set_option maxRecDepth 10000

/-- A flow lies in a block. -/
def BoxF (W : World) (N : Nat) (f t : ByteArray) (p a b : Int) : Prop := W.cell? ⟨N, 0, none⟩ = some (.int .i64 p) ∧ W.cell? ⟨N, 1, none⟩ = some (.string f) ∧ W.cell? ⟨N, 2, none⟩ = some (.string t) ∧ W.cell? ⟨N, 3, none⟩ = some (.int .i64 a) ∧ W.cell? ⟨N, 4, none⟩ = some (.int .i64 b)
theorem BoxF.below {W W' : World} {N B : Nat} {f t : ByteArray} {p a b : Int} (h : BoxF W N f t p a b) (hb : Below B W W') (hN : N < B) : BoxF W' N f t p a b :=
  ⟨(hb.cell (p := ⟨N, 0, none⟩) hN).trans h.1, (hb.cell (p := ⟨N, 1, none⟩) hN).trans h.2.1, (hb.cell (p := ⟨N, 2, none⟩) hN).trans h.2.2.1, (hb.cell (p := ⟨N, 3, none⟩) hN).trans h.2.2.2.1, (hb.cell (p := ⟨N, 4, none⟩) hN).trans h.2.2.2.2⟩
theorem BoxF.new (w : World) (f t : ByteArray) (p a b : Int) : BoxF (w.alloc (.cells #[.int .i64 p, .string f, .string t, .int .i64 a, .int .i64 b] 27)) w.heap.size f t p a b := by
  simp [BoxF, go_sem]

set_option maxHeartbeats 1000000 in
theorem quoted_four_short (s : ByteArray) (w : World) (hG : Glob w) (hs : s.size < 32) :
    Calls Tryd.prog 17 #[.string s] w fun e w' => e = .returned (.tuple #[.agg #[.int .i64 0, .string ⟨#[]⟩, .string ⟨#[]⟩, .int .i64 0, .int .i64 0], .int .i64 53]) ∧ Below w.heap.size w w' := by
  obtain ⟨g0, g1, g2, g3, g4, g5, g6, g7⟩ := hG
  have ng0 : 0 < w.heap.size := World.block_lt_of_cell? _ _ g0
  have ng1 : 1 < w.heap.size := World.block_lt_of_cell? _ _ g4
  go_enter Tryd.func17, Tryd.ntmps17
  go_wp2_with fail
  refine (quote_four_no s _ hs).mono ?_
  rintro e w1 ⟨rfl, hb1⟩
  have HB1 := Lib.hid (((Below.refl w.heap.size _).alloc (Nat.le_refl _) _).trans (hb1.mono (by simp)))
  obtain ⟨z0, z1, z2, z3, z4⟩ := (BoxF.new w ⟨#[]⟩ ⟨#[]⟩ 0 0 0).below hb1 (by simp)
  have zf : ∀ o, w1.frozen? ⟨w.heap.size, o, none⟩ = false := (Free.new w _ _).below hb1 (by simp)
  have n1 : w.heap.size < w1.heap.size := World.block_lt_of_cell? _ _ z0
  have HG1 := Lib.hid (show Glob w1 from Glob.below (B := w.heap.size) ⟨g0, g1, g2, g3, g4, g5, g6, g7⟩ (((Below.refl w.heap.size _).alloc (Nat.le_refl _) _).trans (hb1.mono (by simp))) (by omega))
  clear hb1 g0 g1 g2 g3 g4 g5 g6 g7 ng0 ng1
  obtain ⟨g0, g1, g2, g3, g4, g5, g6, g7⟩ := HG1.out
  have ng0 : 0 < w1.heap.size := World.block_lt_of_cell? _ _ g0
  have ng1 : 1 < w1.heap.size := World.block_lt_of_cell? _ _ g4
  go_wp2
  exact bodyPost_ret (v := .tuple #[.agg #[.int .i64 0, .string ⟨#[]⟩, .string ⟨#[]⟩, .int .i64 0, .int .i64 0], .int .i64 53]) (by simp [results, Tryd.results17, go_sem, *]) rfl ⟨rfl, below5 HB1.out (Nat.le_refl _)⟩

set_option maxHeartbeats 1000000 in
theorem quoted_four_first (s : ByteArray) (w : World) (hG : Glob w) (hs : 32 ≤ s.size) (hs2 : s.size ≤ 3000) (x0 : Int) (hx : byteAt (bts s) 8 = x0) (h0 : ¬ x0 = 69) :
    Calls Tryd.prog 17 #[.string s] w fun e w' => e = .returned (.tuple #[.agg #[.int .i64 0, .string ⟨#[]⟩, .string ⟨#[]⟩, .int .i64 0, .int .i64 0], .int .i64 53]) ∧ Below w.heap.size w w' := by
  obtain ⟨g0, g1, g2, g3, g4, g5, g6, g7⟩ := hG
  have ng0 : 0 < w.heap.size := World.block_lt_of_cell? _ _ g0
  have ng1 : 1 < w.heap.size := World.block_lt_of_cell? _ _ g4
  obtain ⟨b, hb⟩ : ∃ b, s.extract 8 s.size = b := ⟨_, rfl⟩
  have hbp : 0 < b.size := by rw [← hb]; simp; omega
  have HBq := Lib.hid hb
  have hx0 : ((b[0]'hbp).toNat : Int) = x0 := by rw [← byteAt_text b 0 hbp, ← hb, byteAt_extract s 8 0 _ rfl (by omega)]; exact hx
  have i0 : (0 : Int) < (b.size : Int) := by omega
  have b0 : 0 ≤ x0 ∧ x0 ≤ 255 := by rw [← hx0]; exact byte_le _
  have d0 : (x0 != 69) = true := by simpa using h0
  clear hb hx
  go_enter Tryd.func17, Tryd.ntmps17
  go_wp2_with fail
  refine (quote_four_yes s b _ hs hs2 HBq.out).mono ?_
  rintro e w1 ⟨rfl, hb1⟩
  have HB1 := Lib.hid (((Below.refl w.heap.size _).alloc (Nat.le_refl _) _).trans (hb1.mono (by simp)))
  obtain ⟨z0, z1, z2, z3, z4⟩ := (BoxF.new w ⟨#[]⟩ ⟨#[]⟩ 0 0 0).below hb1 (by simp)
  have zf : ∀ o, w1.frozen? ⟨w.heap.size, o, none⟩ = false := (Free.new w _ _).below hb1 (by simp)
  have n1 : w.heap.size < w1.heap.size := World.block_lt_of_cell? _ _ z0
  have HG1 := Lib.hid (show Glob w1 from Glob.below (B := w.heap.size) ⟨g0, g1, g2, g3, g4, g5, g6, g7⟩ (((Below.refl w.heap.size _).alloc (Nat.le_refl _) _).trans (hb1.mono (by simp))) (by omega))
  clear hb1 g0 g1 g2 g3 g4 g5 g6 g7 ng0 ng1
  obtain ⟨g0, g1, g2, g3, g4, g5, g6, g7⟩ := HG1.out
  have ng0 : 0 < w1.heap.size := World.block_lt_of_cell? _ _ g0
  have ng1 : 1 < w1.heap.size := World.block_lt_of_cell? _ _ g4
  go_wp2
  exact bodyPost_ret (v := .tuple #[.agg #[.int .i64 0, .string ⟨#[]⟩, .string ⟨#[]⟩, .int .i64 0, .int .i64 0], .int .i64 53]) (by simp [results, Tryd.results17, go_sem, *]) rfl ⟨rfl, below5 HB1.out (Nat.le_refl _)⟩

set_option maxHeartbeats 1000000 in
theorem quoted_four_go (s : ByteArray) (w : World) (hG : Glob w) (hs : 32 ≤ s.size) (hs2 : s.size ≤ 3000) (x0 : Int) (hx : byteAt (bts s) 8 = x0) (h0 : x0 = 69) (f t : ByteArray) (p a c r : Int)
    (H : ∀ w : World, Calls Tryd.prog 42 #[.string (s.extract 8 s.size), .agg #[.int .i64 9, .int .i64 12, .int .i64 16, .int .i64 20]] w fun e w' => e = .returned (.tuple #[.agg #[.int .i64 p, .string f, .string t, .int .i64 a, .int .i64 c], .int .i64 r]) ∧ Below w.heap.size w w') :
    Calls Tryd.prog 17 #[.string s] w fun e w' => e = .returned (.tuple #[.agg #[.int .i64 p, .string f, .string t, .int .i64 a, .int .i64 c], .int .i64 r]) ∧ Below w.heap.size w w' := by
  obtain ⟨g0, g1, g2, g3, g4, g5, g6, g7⟩ := hG
  have ng0 : 0 < w.heap.size := World.block_lt_of_cell? _ _ g0
  have ng1 : 1 < w.heap.size := World.block_lt_of_cell? _ _ g4
  obtain ⟨b, hb⟩ : ∃ b, s.extract 8 s.size = b := ⟨_, rfl⟩
  have hbp : 0 < b.size := by rw [← hb]; simp; omega
  have HBq := Lib.hid hb
  have hx0 : ((b[0]'hbp).toNat : Int) = x0 := by rw [← byteAt_text b 0 hbp, ← hb, byteAt_extract s 8 0 _ rfl (by omega)]; exact hx
  have i0 : (0 : Int) < (b.size : Int) := by omega
  have b0 : 0 ≤ x0 ∧ x0 ≤ 255 := by rw [← hx0]; exact byte_le _
  have d0 : (x0 != 69) = false := by simpa using h0
  rw [hb] at H
  have HH := Lib.hid H
  clear hb hx H
  go_enter Tryd.func17, Tryd.ntmps17
  go_wp2_with fail
  refine (quote_four_yes s b _ hs hs2 HBq.out).mono ?_
  rintro e w1 ⟨rfl, hb1⟩
  have HB1 := Lib.hid (((Below.refl w.heap.size _).alloc (Nat.le_refl _) _).trans (hb1.mono (by simp)))
  obtain ⟨z0, z1, z2, z3, z4⟩ := (BoxF.new w ⟨#[]⟩ ⟨#[]⟩ 0 0 0).below hb1 (by simp)
  have zf : ∀ o, w1.frozen? ⟨w.heap.size, o, none⟩ = false := (Free.new w _ _).below hb1 (by simp)
  have n1 : w.heap.size < w1.heap.size := World.block_lt_of_cell? _ _ z0
  have HG1 := Lib.hid (show Glob w1 from Glob.below (B := w.heap.size) ⟨g0, g1, g2, g3, g4, g5, g6, g7⟩ (((Below.refl w.heap.size _).alloc (Nat.le_refl _) _).trans (hb1.mono (by simp))) (by omega))
  clear hb1 g0 g1 g2 g3 g4 g5 g6 g7 ng0 ng1
  obtain ⟨g0, g1, g2, g3, g4, g5, g6, g7⟩ := HG1.out
  have ng0 : 0 < w1.heap.size := World.block_lt_of_cell? _ _ g0
  have ng1 : 1 < w1.heap.size := World.block_lt_of_cell? _ _ g4
  go_wp2_with fail
  refine (HH.out _).mono ?_
  rintro e w2 ⟨rfl, hb2⟩
  have HB2 := Lib.hid (HB1.out.trans (hb2.mono (by omega)))
  have HZ2 := Lib.hid (show BoxF w2 w.heap.size ⟨#[]⟩ ⟨#[]⟩ 0 0 0 from BoxF.below (W := w1) ⟨z0, z1, z2, z3, z4⟩ hb2 n1)
  have zf2 : ∀ o, w2.frozen? ⟨w.heap.size, o, none⟩ = false := fun o => (hb2.frozen (p := ⟨w.heap.size, o, none⟩) n1).trans (zf o)
  clear z0 z1 z2 z3 z4 zf g0 g1 g2 g3 g4 g5 g6 g7 hb2
  obtain ⟨z0, z1, z2, z3, z4⟩ := HZ2.out
  have n2 : w.heap.size < w2.heap.size := World.block_lt_of_cell? _ _ z0
  go_wp2
  exact bodyPost_ret (v := .tuple #[.agg #[.int .i64 p, .string f, .string t, .int .i64 a, .int .i64 c], .int .i64 r]) (by simp [results, Tryd.results17, go_sem, *]) rfl ⟨rfl, below5 HB2.out (Nat.le_refl _)⟩

/-- ports.quotedFour: what it tells. -/
def qtfour (s : ByteArray) (p : Int) : Prop := 32 ≤ s.size ∧ (∃ x0, byteAt (bts s) 8 = x0 ∧ x0 = 69) ∧ byteAt (bts s) 17 = p ∧ portsB p = true
theorem quoted_four_yes (s : ByteArray) (p : Int) (w : World) (hG : Glob w) (hs2 : s.size ≤ 3000) (h : qtfour s p) :
    Calls Tryd.prog 17 #[.string s] w fun e w' => e = .returned (.tuple #[.agg #[.int .i64 p, .string (s.extract 20 24), .string (s.extract 24 28), .int .i64 (twoAt (bts s) 28), .int .i64 (twoAt (bts s) 30)], .int .i64 0]) ∧ Below w.heap.size w w' := by
  obtain ⟨h1, ⟨x0, hx, h0⟩, hp, hp2⟩ := h
  have hz : (s.extract 8 s.size).size = s.size - 8 := by simp
  refine quoted_four_go s w hG h1 hs2 x0 hx h0 _ _ _ _ _ _ (fun w => ?_)
  refine flowOf_four_yes (s.extract 8 s.size) _ _ p _ _ w (by omega) (by omega) ?_ hp2 ?_ ?_ ?_ ?_
  · rw [byteAt_extract s 8 9 _ rfl (by omega)]; exact hp
  · exact extract2 s 8 12 16 _ rfl (by omega)
  · exact extract2 s 8 16 20 _ rfl (by omega)
  · exact twoAt_extract s 8 20 _ rfl (by omega)
  · exact twoAt_extract s 8 22 _ rfl (by omega)
theorem quoted_four_no (s : ByteArray) (w : World) (hG : Glob w) (hs2 : s.size ≤ 3000) (h : ¬ ∃ p, qtfour s p) :
    Calls Tryd.prog 17 #[.string s] w fun e w' => e = .returned (.tuple #[.agg #[.int .i64 0, .string ⟨#[]⟩, .string ⟨#[]⟩, .int .i64 0, .int .i64 0], .int .i64 53]) ∧ Below w.heap.size w w' := by
  by_cases h1 : s.size < 32
  · exact quoted_four_short s w hG h1
  · have hz : (s.extract 8 s.size).size = s.size - 8 := by simp
    obtain ⟨x0, hx⟩ : ∃ x0, byteAt (bts s) 8 = x0 := ⟨_, rfl⟩
    by_cases h0 : x0 = 69
    · have hp : portsB (byteAt (bts s) 17) = false := by
        rcases e : portsB (byteAt (bts s) 17) with _ | _
        · rfl
        · exact absurd ⟨_, by omega, ⟨x0, hx, h0⟩, rfl, e⟩ h
      refine quoted_four_go s w hG (by omega) hs2 x0 hx h0 _ _ _ _ _ _ (fun w => ?_)
      refine flowOf_four_no (s.extract 8 s.size) w (by omega) (by omega) ?_
      rw [byteAt_extract s 8 9 _ rfl (by omega)]
      exact hp
    · exact quoted_four_first s w hG (by omega) hs2 x0 hx h0

set_option maxHeartbeats 1000000 in
theorem quoted_six_short (s : ByteArray) (w : World) (hG : Glob w) (hs : s.size < 52) :
    Calls Tryd.prog 20 #[.string s] w fun e w' => e = .returned (.tuple #[.agg #[.int .i64 0, .string ⟨#[]⟩, .string ⟨#[]⟩, .int .i64 0, .int .i64 0], .int .i64 53]) ∧ Below w.heap.size w w' := by
  obtain ⟨g0, g1, g2, g3, g4, g5, g6, g7⟩ := hG
  have ng0 : 0 < w.heap.size := World.block_lt_of_cell? _ _ g0
  have ng1 : 1 < w.heap.size := World.block_lt_of_cell? _ _ g4
  go_enter Tryd.func20, Tryd.ntmps20
  go_wp2_with fail
  refine (quote_six_no s _ hs).mono ?_
  rintro e w1 ⟨rfl, hb1⟩
  have HB1 := Lib.hid (((Below.refl w.heap.size _).alloc (Nat.le_refl _) _).trans (hb1.mono (by simp)))
  obtain ⟨z0, z1, z2, z3, z4⟩ := (BoxF.new w ⟨#[]⟩ ⟨#[]⟩ 0 0 0).below hb1 (by simp)
  have zf : ∀ o, w1.frozen? ⟨w.heap.size, o, none⟩ = false := (Free.new w _ _).below hb1 (by simp)
  have n1 : w.heap.size < w1.heap.size := World.block_lt_of_cell? _ _ z0
  have HG1 := Lib.hid (show Glob w1 from Glob.below (B := w.heap.size) ⟨g0, g1, g2, g3, g4, g5, g6, g7⟩ (((Below.refl w.heap.size _).alloc (Nat.le_refl _) _).trans (hb1.mono (by simp))) (by omega))
  clear hb1 g0 g1 g2 g3 g4 g5 g6 g7 ng0 ng1
  obtain ⟨g0, g1, g2, g3, g4, g5, g6, g7⟩ := HG1.out
  have ng0 : 0 < w1.heap.size := World.block_lt_of_cell? _ _ g0
  have ng1 : 1 < w1.heap.size := World.block_lt_of_cell? _ _ g4
  go_wp2
  exact bodyPost_ret (v := .tuple #[.agg #[.int .i64 0, .string ⟨#[]⟩, .string ⟨#[]⟩, .int .i64 0, .int .i64 0], .int .i64 53]) (by simp [results, Tryd.results20, go_sem, *]) rfl ⟨rfl, below5 HB1.out (Nat.le_refl _)⟩

set_option maxHeartbeats 1000000 in
theorem quoted_six_first (s : ByteArray) (w : World) (hG : Glob w) (hs : 52 ≤ s.size) (hs2 : s.size ≤ 3000) (x0 : Int) (hx : byteAt (bts s) 8 = x0) (h0 : ¬ x0 / 16 = 6) :
    Calls Tryd.prog 20 #[.string s] w fun e w' => e = .returned (.tuple #[.agg #[.int .i64 0, .string ⟨#[]⟩, .string ⟨#[]⟩, .int .i64 0, .int .i64 0], .int .i64 53]) ∧ Below w.heap.size w w' := by
  obtain ⟨g0, g1, g2, g3, g4, g5, g6, g7⟩ := hG
  have ng0 : 0 < w.heap.size := World.block_lt_of_cell? _ _ g0
  have ng1 : 1 < w.heap.size := World.block_lt_of_cell? _ _ g4
  obtain ⟨b, hb⟩ : ∃ b, s.extract 8 s.size = b := ⟨_, rfl⟩
  have hbp : 0 < b.size := by rw [← hb]; simp; omega
  have HBq := Lib.hid hb
  have hx0 : ((b[0]'hbp).toNat : Int) = x0 := by rw [← byteAt_text b 0 hbp, ← hb, byteAt_extract s 8 0 _ rfl (by omega)]; exact hx
  have i0 : (0 : Int) < (b.size : Int) := by omega
  have b0 : 0 ≤ x0 ∧ x0 ≤ 255 := by rw [← hx0]; exact byte_le _
  have d0 : (x0 / 16 != 6) = true := by simpa using h0
  clear hb hx
  go_enter Tryd.func20, Tryd.ntmps20
  go_wp2_with fail
  refine (quote_six_yes s b _ hs hs2 HBq.out).mono ?_
  rintro e w1 ⟨rfl, hb1⟩
  have HB1 := Lib.hid (((Below.refl w.heap.size _).alloc (Nat.le_refl _) _).trans (hb1.mono (by simp)))
  obtain ⟨z0, z1, z2, z3, z4⟩ := (BoxF.new w ⟨#[]⟩ ⟨#[]⟩ 0 0 0).below hb1 (by simp)
  have zf : ∀ o, w1.frozen? ⟨w.heap.size, o, none⟩ = false := (Free.new w _ _).below hb1 (by simp)
  have n1 : w.heap.size < w1.heap.size := World.block_lt_of_cell? _ _ z0
  have HG1 := Lib.hid (show Glob w1 from Glob.below (B := w.heap.size) ⟨g0, g1, g2, g3, g4, g5, g6, g7⟩ (((Below.refl w.heap.size _).alloc (Nat.le_refl _) _).trans (hb1.mono (by simp))) (by omega))
  clear hb1 g0 g1 g2 g3 g4 g5 g6 g7 ng0 ng1
  obtain ⟨g0, g1, g2, g3, g4, g5, g6, g7⟩ := HG1.out
  have ng0 : 0 < w1.heap.size := World.block_lt_of_cell? _ _ g0
  have ng1 : 1 < w1.heap.size := World.block_lt_of_cell? _ _ g4
  go_wp2
  exact bodyPost_ret (v := .tuple #[.agg #[.int .i64 0, .string ⟨#[]⟩, .string ⟨#[]⟩, .int .i64 0, .int .i64 0], .int .i64 53]) (by simp [results, Tryd.results20, go_sem, *]) rfl ⟨rfl, below5 HB1.out (Nat.le_refl _)⟩

set_option maxHeartbeats 1000000 in
theorem quoted_six_go (s : ByteArray) (w : World) (hG : Glob w) (hs : 52 ≤ s.size) (hs2 : s.size ≤ 3000) (x0 : Int) (hx : byteAt (bts s) 8 = x0) (h0 : x0 / 16 = 6) (f t : ByteArray) (p a c r : Int)
    (H : ∀ w : World, Calls Tryd.prog 42 #[.string (s.extract 8 s.size), .agg #[.int .i64 6, .int .i64 8, .int .i64 24, .int .i64 40]] w fun e w' => e = .returned (.tuple #[.agg #[.int .i64 p, .string f, .string t, .int .i64 a, .int .i64 c], .int .i64 r]) ∧ Below w.heap.size w w') :
    Calls Tryd.prog 20 #[.string s] w fun e w' => e = .returned (.tuple #[.agg #[.int .i64 p, .string f, .string t, .int .i64 a, .int .i64 c], .int .i64 r]) ∧ Below w.heap.size w w' := by
  obtain ⟨g0, g1, g2, g3, g4, g5, g6, g7⟩ := hG
  have ng0 : 0 < w.heap.size := World.block_lt_of_cell? _ _ g0
  have ng1 : 1 < w.heap.size := World.block_lt_of_cell? _ _ g4
  obtain ⟨b, hb⟩ : ∃ b, s.extract 8 s.size = b := ⟨_, rfl⟩
  have hbp : 0 < b.size := by rw [← hb]; simp; omega
  have HBq := Lib.hid hb
  have hx0 : ((b[0]'hbp).toNat : Int) = x0 := by rw [← byteAt_text b 0 hbp, ← hb, byteAt_extract s 8 0 _ rfl (by omega)]; exact hx
  have i0 : (0 : Int) < (b.size : Int) := by omega
  have b0 : 0 ≤ x0 ∧ x0 ≤ 255 := by rw [← hx0]; exact byte_le _
  have d0 : (x0 / 16 != 6) = false := by simpa using h0
  rw [hb] at H
  have HH := Lib.hid H
  clear hb hx H
  go_enter Tryd.func20, Tryd.ntmps20
  go_wp2_with fail
  refine (quote_six_yes s b _ hs hs2 HBq.out).mono ?_
  rintro e w1 ⟨rfl, hb1⟩
  have HB1 := Lib.hid (((Below.refl w.heap.size _).alloc (Nat.le_refl _) _).trans (hb1.mono (by simp)))
  obtain ⟨z0, z1, z2, z3, z4⟩ := (BoxF.new w ⟨#[]⟩ ⟨#[]⟩ 0 0 0).below hb1 (by simp)
  have zf : ∀ o, w1.frozen? ⟨w.heap.size, o, none⟩ = false := (Free.new w _ _).below hb1 (by simp)
  have n1 : w.heap.size < w1.heap.size := World.block_lt_of_cell? _ _ z0
  have HG1 := Lib.hid (show Glob w1 from Glob.below (B := w.heap.size) ⟨g0, g1, g2, g3, g4, g5, g6, g7⟩ (((Below.refl w.heap.size _).alloc (Nat.le_refl _) _).trans (hb1.mono (by simp))) (by omega))
  clear hb1 g0 g1 g2 g3 g4 g5 g6 g7 ng0 ng1
  obtain ⟨g0, g1, g2, g3, g4, g5, g6, g7⟩ := HG1.out
  have ng0 : 0 < w1.heap.size := World.block_lt_of_cell? _ _ g0
  have ng1 : 1 < w1.heap.size := World.block_lt_of_cell? _ _ g4
  go_wp2_with fail
  refine (HH.out _).mono ?_
  rintro e w2 ⟨rfl, hb2⟩
  have HB2 := Lib.hid (HB1.out.trans (hb2.mono (by omega)))
  have HZ2 := Lib.hid (show BoxF w2 w.heap.size ⟨#[]⟩ ⟨#[]⟩ 0 0 0 from BoxF.below (W := w1) ⟨z0, z1, z2, z3, z4⟩ hb2 n1)
  have zf2 : ∀ o, w2.frozen? ⟨w.heap.size, o, none⟩ = false := fun o => (hb2.frozen (p := ⟨w.heap.size, o, none⟩) n1).trans (zf o)
  clear z0 z1 z2 z3 z4 zf g0 g1 g2 g3 g4 g5 g6 g7 hb2
  obtain ⟨z0, z1, z2, z3, z4⟩ := HZ2.out
  have n2 : w.heap.size < w2.heap.size := World.block_lt_of_cell? _ _ z0
  go_wp2
  exact bodyPost_ret (v := .tuple #[.agg #[.int .i64 p, .string f, .string t, .int .i64 a, .int .i64 c], .int .i64 r]) (by simp [results, Tryd.results20, go_sem, *]) rfl ⟨rfl, below5 HB2.out (Nat.le_refl _)⟩

/-- ports.quotedSix: what it tells. -/
def qtsix (s : ByteArray) (p : Int) : Prop := 52 ≤ s.size ∧ (∃ x0, byteAt (bts s) 8 = x0 ∧ x0 / 16 = 6) ∧ byteAt (bts s) 14 = p ∧ portsB p = true
theorem quoted_six_yes (s : ByteArray) (p : Int) (w : World) (hG : Glob w) (hs2 : s.size ≤ 3000) (h : qtsix s p) :
    Calls Tryd.prog 20 #[.string s] w fun e w' => e = .returned (.tuple #[.agg #[.int .i64 p, .string (s.extract 16 32), .string (s.extract 32 48), .int .i64 (twoAt (bts s) 48), .int .i64 (twoAt (bts s) 50)], .int .i64 0]) ∧ Below w.heap.size w w' := by
  obtain ⟨h1, ⟨x0, hx, h0⟩, hp, hp2⟩ := h
  have hz : (s.extract 8 s.size).size = s.size - 8 := by simp
  refine quoted_six_go s w hG h1 hs2 x0 hx h0 _ _ _ _ _ _ (fun w => ?_)
  refine flowOf_six_yes (s.extract 8 s.size) _ _ p _ _ w (by omega) (by omega) ?_ hp2 ?_ ?_ ?_ ?_
  · rw [byteAt_extract s 8 6 _ rfl (by omega)]; exact hp
  · exact extract2 s 8 8 24 _ rfl (by omega)
  · exact extract2 s 8 24 40 _ rfl (by omega)
  · exact twoAt_extract s 8 40 _ rfl (by omega)
  · exact twoAt_extract s 8 42 _ rfl (by omega)
theorem quoted_six_no (s : ByteArray) (w : World) (hG : Glob w) (hs2 : s.size ≤ 3000) (h : ¬ ∃ p, qtsix s p) :
    Calls Tryd.prog 20 #[.string s] w fun e w' => e = .returned (.tuple #[.agg #[.int .i64 0, .string ⟨#[]⟩, .string ⟨#[]⟩, .int .i64 0, .int .i64 0], .int .i64 53]) ∧ Below w.heap.size w w' := by
  by_cases h1 : s.size < 52
  · exact quoted_six_short s w hG h1
  · have hz : (s.extract 8 s.size).size = s.size - 8 := by simp
    obtain ⟨x0, hx⟩ : ∃ x0, byteAt (bts s) 8 = x0 := ⟨_, rfl⟩
    by_cases h0 : x0 / 16 = 6
    · have hp : portsB (byteAt (bts s) 14) = false := by
        rcases e : portsB (byteAt (bts s) 14) with _ | _
        · rfl
        · exact absurd ⟨_, by omega, ⟨x0, hx, h0⟩, rfl, e⟩ h
      refine quoted_six_go s w hG (by omega) hs2 x0 hx h0 _ _ _ _ _ _ (fun w => ?_)
      refine flowOf_six_no (s.extract 8 s.size) w (by omega) (by omega) ?_
      rw [byteAt_extract s 8 6 _ rfl (by omega)]
      exact hp
    · exact quoted_six_first s w hG (by omega) hs2 x0 hx h0

end Go.Proofs.YtomcniakffipfaaDoor
