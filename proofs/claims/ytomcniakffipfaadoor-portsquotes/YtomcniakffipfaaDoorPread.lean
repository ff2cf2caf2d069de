/-
  What ports.Read does.
-/
import Derived.Test.YtomcniakffipfaaDoorPhead
import Derived.Test.YtomcniakffipfaaDoorPgood
namespace Go.Proofs.YtomcniakffipfaaDoor
open Go.RowKit
set_option linter.unusedVariables false
set_option maxRecDepth 10000

set_option maxHeartbeats 1000000 in
/-- ports.Read, of another form. -/
theorem read_form (f t : ByteArray) (p l0 : Int) (s : ByteArray) (w : World) (r : Int) (hr : r ≠ 0) (H : ∀ w : World, Calls Tryd.prog 37 #[.int .i64 p, .string s] w fun e w' => e = .returned (.tuple #[.agg #[.int .i64 0, .int .i64 0, .int .i64 0, .int .i64 0, .int .i64 0], .int .i64 r]) ∧ Below w.heap.size w w') :
    Calls Tryd.prog 13 #[.agg #[.string f, .string t, .int .i64 p, .int .i64 l0, .string s]] w fun e w' => e = .returned (.tuple #[.agg #[.int .i64 0, .int .i64 0, .int .i64 0, .int .i64 0, .int .i64 0], .int .i64 r]) ∧ Below w.heap.size w w' := by
  have d0 : (r != 0) = true := by simpa using hr
  have HX0 := Lib.hid (show Boxed ((w.alloc (.cells #[.string f, .string t, .int .i64 p, .int .i64 l0, .string s] 24)).alloc (.cells #[.int .i64 0, .int .i64 0, .int .i64 0, .int .i64 0, .int .i64 0] 36)) w.heap.size f t p l0 s from (Boxed.new w f t p l0 s).below ((Below.refl (w.heap.size + 1) _).alloc (by simp) _) (by simp))
  have HZ0 : Hid (BoxH ((w.alloc (.cells #[.string f, .string t, .int .i64 p, .int .i64 l0, .string s] 24)).alloc (.cells #[.int .i64 0, .int .i64 0, .int .i64 0, .int .i64 0, .int .i64 0] 36)) (w.heap.size + 1) 0 0 0 0 0) := Lib.hid (by simp [BoxH, go_sem])
  have HF0 : Hid (Free ((w.alloc (.cells #[.string f, .string t, .int .i64 p, .int .i64 l0, .string s] 24)).alloc (.cells #[.int .i64 0, .int .i64 0, .int .i64 0, .int .i64 0, .int .i64 0] 36)) (w.heap.size + 1)) := Lib.hid (fun o => by simp [go_sem])
  have HE := Lib.hid H
  clear H
  go_enter Tryd.func13, Tryd.ntmps13
  go_wp2_with fail
  refine (HE.out _).mono ?_
  rintro e w1 ⟨rfl, hb1'⟩
  have hb1 : Below (w.heap.size + 1 + 1) ((w.alloc (.cells #[.string f, .string t, .int .i64 p, .int .i64 l0, .string s] 24)).alloc (.cells #[.int .i64 0, .int .i64 0, .int .i64 0, .int .i64 0, .int .i64 0] 36)) w1 := by simpa using hb1'
  have HB1 := Lib.hid ((((Below.refl w.heap.size _).alloc (Nat.le_refl _) _).alloc (by simp) _).trans (hb1.mono (by omega)))
  have HX1 := Lib.hid (HX0.out.below hb1 (by omega))
  have HZ1 := Lib.hid (HZ0.out.below hb1 (by omega))
  have HF1 := Lib.hid (HF0.out.below hb1 (by omega))
  have n0 : w.heap.size ≤ w1.heap.size := HB1.out.size
  clear hb1 hb1' HX0 HZ0 HF0
  obtain ⟨x0, x1, x2, x3, x4⟩ := HX1.out
  obtain ⟨z0, z1, z2, z3, z4⟩ := HZ1.out
  have zf : ∀ o, w1.frozen? ⟨w.heap.size + 1, o, none⟩ = false := HF1.out
  have n1 : w.heap.size + 1 < w1.heap.size := World.block_lt_of_cell? _ _ HZ1.out.1
  have n2 : w.heap.size < w1.heap.size := by omega
  go_wp2
  exact bodyPost_ret (v := .tuple #[.agg #[.int .i64 0, .int .i64 0, .int .i64 0, .int .i64 0, .int .i64 0], .int .i64 r]) (by simp [results, Tryd.results13, go_sem, *]) rfl ⟨rfl, (below5 HB1.out (by omega)).alloc (by simp; omega) _⟩

set_option maxHeartbeats 1000000 in
/-- ports.Read, of a bad sum. -/
theorem read_sum (f t : ByteArray) (p l0 : Int) (s : ByteArray) (w : World) (hf : f.size ≤ 140737488351232) (ht : t.size ≤ 140737488351232) (hs : s.size ≤ 3000) (hp : -9223372036854775808 ≤ p ∧ p ≤ 9223372036854775807) (h0 h1 h2 h3 h4 : Int) (v : Int) (hv : fd (tot (psx f t p (s.size : Int) ++ bts s)) = v) (h6 : v ≠ 65535) (H : ∀ w : World, Calls Tryd.prog 37 #[.int .i64 p, .string s] w fun e w' => e = .returned (.tuple #[.agg #[.int .i64 h0, .int .i64 h1, .int .i64 h2, .int .i64 h3, .int .i64 h4], .int .i64 0]) ∧ Below w.heap.size w w') (HS : ∀ w : World, Calls Tryd.prog 38 #[.agg #[.string f, .string t, .int .i64 p, .int .i64 l0, .string s]] w fun e w' => e = .returned (.bool false) ∧ Below w.heap.size w w') :
    Calls Tryd.prog 13 #[.agg #[.string f, .string t, .int .i64 p, .int .i64 l0, .string s]] w fun e w' => e = .returned (.tuple #[.agg #[.int .i64 0, .int .i64 0, .int .i64 0, .int .i64 0, .int .i64 0], .int .i64 52]) ∧ Below w.heap.size w w' := by
  have HV := Lib.hid hv
  have HSS := Lib.hid HS
  have d0 : (v == 65535) = false := by simpa using h6
  clear hv HS
  have HX0 := Lib.hid (show Boxed ((w.alloc (.cells #[.string f, .string t, .int .i64 p, .int .i64 l0, .string s] 24)).alloc (.cells #[.int .i64 0, .int .i64 0, .int .i64 0, .int .i64 0, .int .i64 0] 36)) w.heap.size f t p l0 s from (Boxed.new w f t p l0 s).below ((Below.refl (w.heap.size + 1) _).alloc (by simp) _) (by simp))
  have HZ0 : Hid (BoxH ((w.alloc (.cells #[.string f, .string t, .int .i64 p, .int .i64 l0, .string s] 24)).alloc (.cells #[.int .i64 0, .int .i64 0, .int .i64 0, .int .i64 0, .int .i64 0] 36)) (w.heap.size + 1) 0 0 0 0 0) := Lib.hid (by simp [BoxH, go_sem])
  have HF0 : Hid (Free ((w.alloc (.cells #[.string f, .string t, .int .i64 p, .int .i64 l0, .string s] 24)).alloc (.cells #[.int .i64 0, .int .i64 0, .int .i64 0, .int .i64 0, .int .i64 0] 36)) (w.heap.size + 1)) := Lib.hid (fun o => by simp [go_sem])
  have HE := Lib.hid H
  clear H
  go_enter Tryd.func13, Tryd.ntmps13
  go_wp2_with fail
  refine (HE.out _).mono ?_
  rintro e w1 ⟨rfl, hb1'⟩
  have hb1 : Below (w.heap.size + 1 + 1) ((w.alloc (.cells #[.string f, .string t, .int .i64 p, .int .i64 l0, .string s] 24)).alloc (.cells #[.int .i64 0, .int .i64 0, .int .i64 0, .int .i64 0, .int .i64 0] 36)) w1 := by simpa using hb1'
  have HB1 := Lib.hid ((((Below.refl w.heap.size _).alloc (Nat.le_refl _) _).alloc (by simp) _).trans (hb1.mono (by omega)))
  have HX1 := Lib.hid (HX0.out.below hb1 (by omega))
  have HZ1 := Lib.hid (HZ0.out.below hb1 (by omega))
  have HF1 := Lib.hid (HF0.out.below hb1 (by omega))
  have n0 : w.heap.size ≤ w1.heap.size := HB1.out.size
  clear hb1 hb1' HX0 HZ0 HF0
  obtain ⟨x0, x1, x2, x3, x4⟩ := HX1.out
  obtain ⟨z0, z1, z2, z3, z4⟩ := HZ1.out
  have zf : ∀ o, w1.frozen? ⟨w.heap.size + 1, o, none⟩ = false := HF1.out
  have n1 : w.heap.size + 1 < w1.heap.size := World.block_lt_of_cell? _ _ HZ1.out.1
  have n2 : w.heap.size < w1.heap.size := by omega
  go_wp2_with fail
  refine (HSS.out _).mono ?_
  rintro e w2 ⟨rfl, hb2'⟩
  have hb2 : Below (w1.heap.size + 1) (w1.alloc (.cells #[.int .i64 h0, .int .i64 h1, .int .i64 h2, .int .i64 h3, .int .i64 h4] 36)) w2 := by simpa using hb2'
  have HX2 := Lib.hid ((HX1.out.below ((Below.refl w1.heap.size _).alloc (Nat.le_refl _) _) (by omega)).below hb2 (by omega))
  have HZ2 := Lib.hid ((HZ1.out.below ((Below.refl w1.heap.size _).alloc (Nat.le_refl _) _) (by omega)).below hb2 (by omega))
  have HF2 := Lib.hid ((HF1.out.below ((Below.refl w1.heap.size _).alloc (Nat.le_refl _) _) (by omega)).below hb2 (by omega))
  have HG2 := Lib.hid ((BoxH.new w1 h0 h1 h2 h3 h4).below hb2 (by omega))
  have HB2 := Lib.hid ((HB1.out.trans (((Below.refl w1.heap.size _).alloc (Nat.le_refl _) _).mono n0)).trans (hb2.mono (by omega)))
  clear x0 x1 x2 x3 x4 z0 z1 z2 z3 z4 zf n1 n2 hb2 hb2'
  obtain ⟨x0, x1, x2, x3, x4⟩ := HX2.out
  obtain ⟨z0, z1, z2, z3, z4⟩ := HZ2.out
  have zf : ∀ o, w2.frozen? ⟨w.heap.size + 1, o, none⟩ = false := HF2.out
  obtain ⟨g0, g1, g2, g3, g4⟩ := HG2.out
  have n1 : w.heap.size + 1 < w2.heap.size := World.block_lt_of_cell? _ _ HZ2.out.1
  have n2 : w.heap.size < w2.heap.size := by omega
  have n3 : w1.heap.size < w2.heap.size := World.block_lt_of_cell? _ _ HG2.out.1
  go_wp2_with fail
  refine (good_pk f t p l0 s v _ hf ht hs hp HV.out).mono ?_
  rintro e w3 ⟨rfl, hb3''⟩
  have hb3' := hb3''.out
  clear hb3''
  have hb3 : Below (w2.heap.size) w2 w3 := by simpa using hb3'
  have HX3 := Lib.hid (HX2.out.below hb3 (by omega))
  have HZ3 := Lib.hid (HZ2.out.below hb3 (by omega))
  have HF3 := Lib.hid (HF2.out.below hb3 (by omega))
  have HG3 := Lib.hid (HG2.out.below hb3 (by omega))
  have HB3 := Lib.hid (HB2.out.trans (hb3.mono (by omega)))
  clear x0 x1 x2 x3 x4 z0 z1 z2 z3 z4 zf n1 n2 n3 g0 g1 g2 g3 g4 hb3 hb3'
  obtain ⟨x0, x1, x2, x3, x4⟩ := HX3.out
  obtain ⟨z0, z1, z2, z3, z4⟩ := HZ3.out
  have zf : ∀ o, w3.frozen? ⟨w.heap.size + 1, o, none⟩ = false := HF3.out
  obtain ⟨g0, g1, g2, g3, g4⟩ := HG3.out
  have n1 : w.heap.size + 1 < w3.heap.size := World.block_lt_of_cell? _ _ HZ3.out.1
  have n2 : w.heap.size < w3.heap.size := by omega
  have n3 : w1.heap.size < w3.heap.size := World.block_lt_of_cell? _ _ HG3.out.1
  go_wp2
  exact bodyPost_ret (v := .tuple #[.agg #[.int .i64 0, .int .i64 0, .int .i64 0, .int .i64 0, .int .i64 0], .int .i64 52]) (by simp [results, Tryd.results13, go_sem, *]) rfl ⟨rfl, below5 HB3.out (by omega)⟩

set_option maxHeartbeats 1000000 in
/-- ports.Read, of four bytes. -/
theorem read_four (f t : ByteArray) (p l0 : Int) (s : ByteArray) (w : World) (hf : f.size ≤ 140737488351232) (ht : t.size ≤ 140737488351232) (hs : s.size ≤ 3000) (hp : -9223372036854775808 ≤ p ∧ p ≤ 9223372036854775807) (h0 h1 h2 h3 h4 : Int) (v : Int) (hv : fd (tot (psx f t p (s.size : Int) ++ bts s)) = v) (h6 : v = 65535) (h7 : four2 f t = true) (H : ∀ w : World, Calls Tryd.prog 37 #[.int .i64 p, .string s] w fun e w' => e = .returned (.tuple #[.agg #[.int .i64 h0, .int .i64 h1, .int .i64 h2, .int .i64 h3, .int .i64 h4], .int .i64 0]) ∧ Below w.heap.size w w') (HS : ∀ w : World, Calls Tryd.prog 38 #[.agg #[.string f, .string t, .int .i64 p, .int .i64 l0, .string s]] w fun e w' => e = .returned (.bool false) ∧ Below w.heap.size w w') :
    Calls Tryd.prog 13 #[.agg #[.string f, .string t, .int .i64 p, .int .i64 l0, .string s]] w fun e w' => e = .returned (.tuple #[.agg #[.int .i64 h0, .int .i64 h1, .int .i64 h2, .int .i64 h3, .int .i64 h4], .int .i64 0]) ∧ Below w.heap.size w w' := by
  subst h6
  have HV := Lib.hid hv
  have HSS := Lib.hid HS
  have H4 := Lib.hid h7
  clear hv HS h7
  have HX0 := Lib.hid (show Boxed ((w.alloc (.cells #[.string f, .string t, .int .i64 p, .int .i64 l0, .string s] 24)).alloc (.cells #[.int .i64 0, .int .i64 0, .int .i64 0, .int .i64 0, .int .i64 0] 36)) w.heap.size f t p l0 s from (Boxed.new w f t p l0 s).below ((Below.refl (w.heap.size + 1) _).alloc (by simp) _) (by simp))
  have HZ0 : Hid (BoxH ((w.alloc (.cells #[.string f, .string t, .int .i64 p, .int .i64 l0, .string s] 24)).alloc (.cells #[.int .i64 0, .int .i64 0, .int .i64 0, .int .i64 0, .int .i64 0] 36)) (w.heap.size + 1) 0 0 0 0 0) := Lib.hid (by simp [BoxH, go_sem])
  have HF0 : Hid (Free ((w.alloc (.cells #[.string f, .string t, .int .i64 p, .int .i64 l0, .string s] 24)).alloc (.cells #[.int .i64 0, .int .i64 0, .int .i64 0, .int .i64 0, .int .i64 0] 36)) (w.heap.size + 1)) := Lib.hid (fun o => by simp [go_sem])
  have HE := Lib.hid H
  clear H
  go_enter Tryd.func13, Tryd.ntmps13
  go_wp2_with fail
  refine (HE.out _).mono ?_
  rintro e w1 ⟨rfl, hb1'⟩
  have hb1 : Below (w.heap.size + 1 + 1) ((w.alloc (.cells #[.string f, .string t, .int .i64 p, .int .i64 l0, .string s] 24)).alloc (.cells #[.int .i64 0, .int .i64 0, .int .i64 0, .int .i64 0, .int .i64 0] 36)) w1 := by simpa using hb1'
  have HB1 := Lib.hid ((((Below.refl w.heap.size _).alloc (Nat.le_refl _) _).alloc (by simp) _).trans (hb1.mono (by omega)))
  have HX1 := Lib.hid (HX0.out.below hb1 (by omega))
  have HZ1 := Lib.hid (HZ0.out.below hb1 (by omega))
  have HF1 := Lib.hid (HF0.out.below hb1 (by omega))
  have n0 : w.heap.size ≤ w1.heap.size := HB1.out.size
  clear hb1 hb1' HX0 HZ0 HF0
  obtain ⟨x0, x1, x2, x3, x4⟩ := HX1.out
  obtain ⟨z0, z1, z2, z3, z4⟩ := HZ1.out
  have zf : ∀ o, w1.frozen? ⟨w.heap.size + 1, o, none⟩ = false := HF1.out
  have n1 : w.heap.size + 1 < w1.heap.size := World.block_lt_of_cell? _ _ HZ1.out.1
  have n2 : w.heap.size < w1.heap.size := by omega
  go_wp2_with fail
  refine (HSS.out _).mono ?_
  rintro e w2 ⟨rfl, hb2'⟩
  have hb2 : Below (w1.heap.size + 1) (w1.alloc (.cells #[.int .i64 h0, .int .i64 h1, .int .i64 h2, .int .i64 h3, .int .i64 h4] 36)) w2 := by simpa using hb2'
  have HX2 := Lib.hid ((HX1.out.below ((Below.refl w1.heap.size _).alloc (Nat.le_refl _) _) (by omega)).below hb2 (by omega))
  have HZ2 := Lib.hid ((HZ1.out.below ((Below.refl w1.heap.size _).alloc (Nat.le_refl _) _) (by omega)).below hb2 (by omega))
  have HF2 := Lib.hid ((HF1.out.below ((Below.refl w1.heap.size _).alloc (Nat.le_refl _) _) (by omega)).below hb2 (by omega))
  have HG2 := Lib.hid ((BoxH.new w1 h0 h1 h2 h3 h4).below hb2 (by omega))
  have HB2 := Lib.hid ((HB1.out.trans (((Below.refl w1.heap.size _).alloc (Nat.le_refl _) _).mono n0)).trans (hb2.mono (by omega)))
  clear x0 x1 x2 x3 x4 z0 z1 z2 z3 z4 zf n1 n2 hb2 hb2'
  obtain ⟨x0, x1, x2, x3, x4⟩ := HX2.out
  obtain ⟨z0, z1, z2, z3, z4⟩ := HZ2.out
  have zf : ∀ o, w2.frozen? ⟨w.heap.size + 1, o, none⟩ = false := HF2.out
  obtain ⟨g0, g1, g2, g3, g4⟩ := HG2.out
  have n1 : w.heap.size + 1 < w2.heap.size := World.block_lt_of_cell? _ _ HZ2.out.1
  have n2 : w.heap.size < w2.heap.size := by omega
  have n3 : w1.heap.size < w2.heap.size := World.block_lt_of_cell? _ _ HG2.out.1
  go_wp2_with fail
  refine (good_pk f t p l0 s 65535 _ hf ht hs hp HV.out).mono ?_
  rintro e w3 ⟨rfl, hb3''⟩
  have hb3' := hb3''.out
  clear hb3''
  have hb3 : Below (w2.heap.size) w2 w3 := by simpa using hb3'
  have HX3 := Lib.hid (HX2.out.below hb3 (by omega))
  have HZ3 := Lib.hid (HZ2.out.below hb3 (by omega))
  have HF3 := Lib.hid (HF2.out.below hb3 (by omega))
  have HG3 := Lib.hid (HG2.out.below hb3 (by omega))
  have HB3 := Lib.hid (HB2.out.trans (hb3.mono (by omega)))
  clear x0 x1 x2 x3 x4 z0 z1 z2 z3 z4 zf n1 n2 n3 g0 g1 g2 g3 g4 hb3 hb3'
  obtain ⟨x0, x1, x2, x3, x4⟩ := HX3.out
  obtain ⟨z0, z1, z2, z3, z4⟩ := HZ3.out
  have zf : ∀ o, w3.frozen? ⟨w.heap.size + 1, o, none⟩ = false := HF3.out
  obtain ⟨g0, g1, g2, g3, g4⟩ := HG3.out
  have n1 : w.heap.size + 1 < w3.heap.size := World.block_lt_of_cell? _ _ HZ3.out.1
  have n2 : w.heap.size < w3.heap.size := by omega
  have n3 : w1.heap.size < w3.heap.size := World.block_lt_of_cell? _ _ HG3.out.1
  go_wp2_with fail
  refine (bothFour_at hf ht H4.out).mono ?_
  rintro e w4 ⟨rfl, hb4'⟩
  have hb4 : Below (w3.heap.size) w3 w4 := by simpa using hb4'
  have HX4 := Lib.hid (HX3.out.below hb4 (by omega))
  have HZ4 := Lib.hid (HZ3.out.below hb4 (by omega))
  have HF4 := Lib.hid (HF3.out.below hb4 (by omega))
  have HG4 := Lib.hid (HG3.out.below hb4 (by omega))
  have HB4 := Lib.hid (HB3.out.trans (hb4.mono (by omega)))
  clear x0 x1 x2 x3 x4 z0 z1 z2 z3 z4 zf n1 n2 n3 g0 g1 g2 g3 g4 hb4 hb4'
  obtain ⟨x0, x1, x2, x3, x4⟩ := HX4.out
  obtain ⟨z0, z1, z2, z3, z4⟩ := HZ4.out
  have zf : ∀ o, w4.frozen? ⟨w.heap.size + 1, o, none⟩ = false := HF4.out
  obtain ⟨g0, g1, g2, g3, g4⟩ := HG4.out
  have n1 : w.heap.size + 1 < w4.heap.size := World.block_lt_of_cell? _ _ HZ4.out.1
  have n2 : w.heap.size < w4.heap.size := by omega
  have n3 : w1.heap.size < w4.heap.size := World.block_lt_of_cell? _ _ HG4.out.1
  go_wp2
  exact bodyPost_ret (v := .tuple #[.agg #[.int .i64 h0, .int .i64 h1, .int .i64 h2, .int .i64 h3, .int .i64 h4], .int .i64 0]) (by simp [results, Tryd.results13, go_sem, *]) rfl ⟨rfl, below5 HB4.out (by omega)⟩

set_option maxHeartbeats 1000000 in
/-- ports.Read, of sixteen bytes. -/
theorem read_six (f t : ByteArray) (p l0 : Int) (s : ByteArray) (w : World) (hf : f.size ≤ 140737488351232) (ht : t.size ≤ 140737488351232) (hs : s.size ≤ 3000) (hp : -9223372036854775808 ≤ p ∧ p ≤ 9223372036854775807) (h0 h1 h2 h3 h4 : Int) (v : Int) (hv : fd (tot (psx f t p (s.size : Int) ++ bts s)) = v) (h6 : v = 65535) (h7 : four2 f t = false) (h8 : six2 f t = true) (H : ∀ w : World, Calls Tryd.prog 37 #[.int .i64 p, .string s] w fun e w' => e = .returned (.tuple #[.agg #[.int .i64 h0, .int .i64 h1, .int .i64 h2, .int .i64 h3, .int .i64 h4], .int .i64 0]) ∧ Below w.heap.size w w') (HS : ∀ w : World, Calls Tryd.prog 38 #[.agg #[.string f, .string t, .int .i64 p, .int .i64 l0, .string s]] w fun e w' => e = .returned (.bool false) ∧ Below w.heap.size w w') :
    Calls Tryd.prog 13 #[.agg #[.string f, .string t, .int .i64 p, .int .i64 l0, .string s]] w fun e w' => e = .returned (.tuple #[.agg #[.int .i64 h0, .int .i64 h1, .int .i64 h2, .int .i64 h3, .int .i64 h4], .int .i64 0]) ∧ Below w.heap.size w w' := by
  subst h6
  have HV := Lib.hid hv
  have HSS := Lib.hid HS
  have H4 := Lib.hid h7
  have H6 := Lib.hid h8
  clear hv HS h7 h8
  have HX0 := Lib.hid (show Boxed ((w.alloc (.cells #[.string f, .string t, .int .i64 p, .int .i64 l0, .string s] 24)).alloc (.cells #[.int .i64 0, .int .i64 0, .int .i64 0, .int .i64 0, .int .i64 0] 36)) w.heap.size f t p l0 s from (Boxed.new w f t p l0 s).below ((Below.refl (w.heap.size + 1) _).alloc (by simp) _) (by simp))
  have HZ0 : Hid (BoxH ((w.alloc (.cells #[.string f, .string t, .int .i64 p, .int .i64 l0, .string s] 24)).alloc (.cells #[.int .i64 0, .int .i64 0, .int .i64 0, .int .i64 0, .int .i64 0] 36)) (w.heap.size + 1) 0 0 0 0 0) := Lib.hid (by simp [BoxH, go_sem])
  have HF0 : Hid (Free ((w.alloc (.cells #[.string f, .string t, .int .i64 p, .int .i64 l0, .string s] 24)).alloc (.cells #[.int .i64 0, .int .i64 0, .int .i64 0, .int .i64 0, .int .i64 0] 36)) (w.heap.size + 1)) := Lib.hid (fun o => by simp [go_sem])
  have HE := Lib.hid H
  clear H
  go_enter Tryd.func13, Tryd.ntmps13
  go_wp2_with fail
  refine (HE.out _).mono ?_
  rintro e w1 ⟨rfl, hb1'⟩
  have hb1 : Below (w.heap.size + 1 + 1) ((w.alloc (.cells #[.string f, .string t, .int .i64 p, .int .i64 l0, .string s] 24)).alloc (.cells #[.int .i64 0, .int .i64 0, .int .i64 0, .int .i64 0, .int .i64 0] 36)) w1 := by simpa using hb1'
  have HB1 := Lib.hid ((((Below.refl w.heap.size _).alloc (Nat.le_refl _) _).alloc (by simp) _).trans (hb1.mono (by omega)))
  have HX1 := Lib.hid (HX0.out.below hb1 (by omega))
  have HZ1 := Lib.hid (HZ0.out.below hb1 (by omega))
  have HF1 := Lib.hid (HF0.out.below hb1 (by omega))
  have n0 : w.heap.size ≤ w1.heap.size := HB1.out.size
  clear hb1 hb1' HX0 HZ0 HF0
  obtain ⟨x0, x1, x2, x3, x4⟩ := HX1.out
  obtain ⟨z0, z1, z2, z3, z4⟩ := HZ1.out
  have zf : ∀ o, w1.frozen? ⟨w.heap.size + 1, o, none⟩ = false := HF1.out
  have n1 : w.heap.size + 1 < w1.heap.size := World.block_lt_of_cell? _ _ HZ1.out.1
  have n2 : w.heap.size < w1.heap.size := by omega
  go_wp2_with fail
  refine (HSS.out _).mono ?_
  rintro e w2 ⟨rfl, hb2'⟩
  have hb2 : Below (w1.heap.size + 1) (w1.alloc (.cells #[.int .i64 h0, .int .i64 h1, .int .i64 h2, .int .i64 h3, .int .i64 h4] 36)) w2 := by simpa using hb2'
  have HX2 := Lib.hid ((HX1.out.below ((Below.refl w1.heap.size _).alloc (Nat.le_refl _) _) (by omega)).below hb2 (by omega))
  have HZ2 := Lib.hid ((HZ1.out.below ((Below.refl w1.heap.size _).alloc (Nat.le_refl _) _) (by omega)).below hb2 (by omega))
  have HF2 := Lib.hid ((HF1.out.below ((Below.refl w1.heap.size _).alloc (Nat.le_refl _) _) (by omega)).below hb2 (by omega))
  have HG2 := Lib.hid ((BoxH.new w1 h0 h1 h2 h3 h4).below hb2 (by omega))
  have HB2 := Lib.hid ((HB1.out.trans (((Below.refl w1.heap.size _).alloc (Nat.le_refl _) _).mono n0)).trans (hb2.mono (by omega)))
  clear x0 x1 x2 x3 x4 z0 z1 z2 z3 z4 zf n1 n2 hb2 hb2'
  obtain ⟨x0, x1, x2, x3, x4⟩ := HX2.out
  obtain ⟨z0, z1, z2, z3, z4⟩ := HZ2.out
  have zf : ∀ o, w2.frozen? ⟨w.heap.size + 1, o, none⟩ = false := HF2.out
  obtain ⟨g0, g1, g2, g3, g4⟩ := HG2.out
  have n1 : w.heap.size + 1 < w2.heap.size := World.block_lt_of_cell? _ _ HZ2.out.1
  have n2 : w.heap.size < w2.heap.size := by omega
  have n3 : w1.heap.size < w2.heap.size := World.block_lt_of_cell? _ _ HG2.out.1
  go_wp2_with fail
  refine (good_pk f t p l0 s 65535 _ hf ht hs hp HV.out).mono ?_
  rintro e w3 ⟨rfl, hb3''⟩
  have hb3' := hb3''.out
  clear hb3''
  have hb3 : Below (w2.heap.size) w2 w3 := by simpa using hb3'
  have HX3 := Lib.hid (HX2.out.below hb3 (by omega))
  have HZ3 := Lib.hid (HZ2.out.below hb3 (by omega))
  have HF3 := Lib.hid (HF2.out.below hb3 (by omega))
  have HG3 := Lib.hid (HG2.out.below hb3 (by omega))
  have HB3 := Lib.hid (HB2.out.trans (hb3.mono (by omega)))
  clear x0 x1 x2 x3 x4 z0 z1 z2 z3 z4 zf n1 n2 n3 g0 g1 g2 g3 g4 hb3 hb3'
  obtain ⟨x0, x1, x2, x3, x4⟩ := HX3.out
  obtain ⟨z0, z1, z2, z3, z4⟩ := HZ3.out
  have zf : ∀ o, w3.frozen? ⟨w.heap.size + 1, o, none⟩ = false := HF3.out
  obtain ⟨g0, g1, g2, g3, g4⟩ := HG3.out
  have n1 : w.heap.size + 1 < w3.heap.size := World.block_lt_of_cell? _ _ HZ3.out.1
  have n2 : w.heap.size < w3.heap.size := by omega
  have n3 : w1.heap.size < w3.heap.size := World.block_lt_of_cell? _ _ HG3.out.1
  go_wp2_with fail
  refine (bothFour_at hf ht H4.out).mono ?_
  rintro e w4 ⟨rfl, hb4'⟩
  have hb4 : Below (w3.heap.size) w3 w4 := by simpa using hb4'
  have HX4 := Lib.hid (HX3.out.below hb4 (by omega))
  have HZ4 := Lib.hid (HZ3.out.below hb4 (by omega))
  have HF4 := Lib.hid (HF3.out.below hb4 (by omega))
  have HG4 := Lib.hid (HG3.out.below hb4 (by omega))
  have HB4 := Lib.hid (HB3.out.trans (hb4.mono (by omega)))
  clear x0 x1 x2 x3 x4 z0 z1 z2 z3 z4 zf n1 n2 n3 g0 g1 g2 g3 g4 hb4 hb4'
  obtain ⟨x0, x1, x2, x3, x4⟩ := HX4.out
  obtain ⟨z0, z1, z2, z3, z4⟩ := HZ4.out
  have zf : ∀ o, w4.frozen? ⟨w.heap.size + 1, o, none⟩ = false := HF4.out
  obtain ⟨g0, g1, g2, g3, g4⟩ := HG4.out
  have n1 : w.heap.size + 1 < w4.heap.size := World.block_lt_of_cell? _ _ HZ4.out.1
  have n2 : w.heap.size < w4.heap.size := by omega
  have n3 : w1.heap.size < w4.heap.size := World.block_lt_of_cell? _ _ HG4.out.1
  go_wp2_with fail
  refine (bothSix_at hf ht H6.out).mono ?_
  rintro e w5 ⟨rfl, hb5'⟩
  have hb5 : Below (w4.heap.size) w4 w5 := by simpa using hb5'
  have HX5 := Lib.hid (HX4.out.below hb5 (by omega))
  have HZ5 := Lib.hid (HZ4.out.below hb5 (by omega))
  have HF5 := Lib.hid (HF4.out.below hb5 (by omega))
  have HG5 := Lib.hid (HG4.out.below hb5 (by omega))
  have HB5 := Lib.hid (HB4.out.trans (hb5.mono (by omega)))
  clear x0 x1 x2 x3 x4 z0 z1 z2 z3 z4 zf n1 n2 n3 g0 g1 g2 g3 g4 hb5 hb5'
  obtain ⟨x0, x1, x2, x3, x4⟩ := HX5.out
  obtain ⟨z0, z1, z2, z3, z4⟩ := HZ5.out
  have zf : ∀ o, w5.frozen? ⟨w.heap.size + 1, o, none⟩ = false := HF5.out
  obtain ⟨g0, g1, g2, g3, g4⟩ := HG5.out
  have n1 : w.heap.size + 1 < w5.heap.size := World.block_lt_of_cell? _ _ HZ5.out.1
  have n2 : w.heap.size < w5.heap.size := by omega
  have n3 : w1.heap.size < w5.heap.size := World.block_lt_of_cell? _ _ HG5.out.1
  go_wp2
  exact bodyPost_ret (v := .tuple #[.agg #[.int .i64 h0, .int .i64 h1, .int .i64 h2, .int .i64 h3, .int .i64 h4], .int .i64 0]) (by simp [results, Tryd.results13, go_sem, *]) rfl ⟨rfl, below5 HB5.out (by omega)⟩

/-- ports.Read. -/
theorem read_yes (f t : ByteArray) (p l0 : Int) (s : ByteArray) (w : World) (hf : f.size ≤ 140737488351232) (ht : t.size ≤ 140737488351232) (hs : s.size ≤ 3000) (hp : -9223372036854775808 ≤ p ∧ p ≤ 9223372036854775807) (h0 h1 h2 h3 h4 : Int) (hv : fd (tot (psx f t p (s.size : Int) ++ bts s)) = 65535) (h7 : alikeB f t = true) (H : ∀ w : World, Calls Tryd.prog 37 #[.int .i64 p, .string s] w fun e w' => e = .returned (.tuple #[.agg #[.int .i64 h0, .int .i64 h1, .int .i64 h2, .int .i64 h3, .int .i64 h4], .int .i64 0]) ∧ Below w.heap.size w w') (HS : ∀ w : World, Calls Tryd.prog 38 #[.agg #[.string f, .string t, .int .i64 p, .int .i64 l0, .string s]] w fun e w' => e = .returned (.bool false) ∧ Below w.heap.size w w') :
    Calls Tryd.prog 13 #[.agg #[.string f, .string t, .int .i64 p, .int .i64 l0, .string s]] w fun e w' => e = .returned (.tuple #[.agg #[.int .i64 h0, .int .i64 h1, .int .i64 h2, .int .i64 h3, .int .i64 h4], .int .i64 0]) ∧ Below w.heap.size w w' := by
  simp [alikeB, rightB] at h7
  by_cases h4 : f.size = 4
  · exact read_four f t p l0 s w hf ht hs hp h0 h1 h2 h3 _ _ hv rfl (by simp [four2]; omega) H HS
  · exact read_six f t p l0 s w hf ht hs hp h0 h1 h2 h3 _ _ hv rfl (by simp [four2]; omega) (by simp [six2]; omega) H HS

set_option maxHeartbeats 1000000 in
/-- ports.Flow, of what is read. -/
theorem flow_yes (f t : ByteArray) (p l0 : Int) (s : ByteArray) (w : World) (h0 h1 h2 h3 h4 : Int) (H : ∀ w : World, Calls Tryd.prog 13 #[.agg #[.string f, .string t, .int .i64 p, .int .i64 l0, .string s]] w fun e w' => e = .returned (.tuple #[.agg #[.int .i64 h0, .int .i64 h1, .int .i64 h2, .int .i64 h3, .int .i64 h4], .int .i64 0]) ∧ Below w.heap.size w w') :
    Calls Tryd.prog 12 #[.agg #[.string f, .string t, .int .i64 p, .int .i64 l0, .string s]] w fun e w' => e = .returned (.tuple #[.agg #[.int .i64 h0, .string f, .string t, .int .i64 h1, .int .i64 h2], .int .i64 0]) ∧ Below w.heap.size w w' := by
  have HX0 := Lib.hid (show Boxed ((w.alloc (.cells #[.string f, .string t, .int .i64 p, .int .i64 l0, .string s] 24)).alloc (.cells #[.int .i64 0, .string ⟨#[]⟩, .string ⟨#[]⟩, .int .i64 0, .int .i64 0] 27)) w.heap.size f t p l0 s from (Boxed.new w f t p l0 s).below ((Below.refl (w.heap.size + 1) _).alloc (by simp) _) (by simp))
  have HE := Lib.hid H
  clear H
  go_enter Tryd.func12, Tryd.ntmps12
  go_wp2_with fail
  refine (HE.out _).mono ?_
  rintro e w1 ⟨rfl, hb1'⟩
  have hb1 : Below (w.heap.size + 1 + 1) ((w.alloc (.cells #[.string f, .string t, .int .i64 p, .int .i64 l0, .string s] 24)).alloc (.cells #[.int .i64 0, .string ⟨#[]⟩, .string ⟨#[]⟩, .int .i64 0, .int .i64 0] 27)) w1 := by simpa using hb1'
  have HB1 := Lib.hid ((((Below.refl w.heap.size _).alloc (Nat.le_refl _) _).alloc (by simp) _).trans (hb1.mono (by omega)))
  obtain ⟨x0, x1, x2, x3, x4⟩ := HX0.out.below hb1 (by omega)
  have hc : ∀ o, w1.cell? ⟨w.heap.size + 1, o, none⟩ = ((w.alloc (.cells #[.string f, .string t, .int .i64 p, .int .i64 l0, .string s] 24)).alloc (.cells #[.int .i64 0, .string ⟨#[]⟩, .string ⟨#[]⟩, .int .i64 0, .int .i64 0] 27)).cell? ⟨w.heap.size + 1, o, none⟩ := fun o => hb1.cell (p := ⟨_, o, none⟩) (by simp)
  have z0 := (hc 0).trans (show _ = some (.int .i64 0) by simp [go_sem])
  have z1 := (hc 1).trans (show _ = some (.string ⟨#[]⟩) by simp [go_sem])
  have z2 := (hc 2).trans (show _ = some (.string ⟨#[]⟩) by simp [go_sem])
  have z3 := (hc 3).trans (show _ = some (.int .i64 0) by simp [go_sem])
  have z4 := (hc 4).trans (show _ = some (.int .i64 0) by simp [go_sem])
  have zf : ∀ o, w1.frozen? ⟨w.heap.size + 1, o, none⟩ = false := fun o => (hb1.frozen (p := ⟨_, o, none⟩) (by simp)).trans (by simp [go_sem])
  have n1 : w.heap.size + 1 < w1.heap.size := World.block_lt_of_cell? _ _ z0
  have n2 : w.heap.size < w1.heap.size := by omega
  have n0 : w.heap.size ≤ w1.heap.size := by omega
  clear hb1 hb1' HX0 hc
  go_wp2
  exact bodyPost_ret (v := .tuple #[.agg #[.int .i64 h0, .string f, .string t, .int .i64 h1, .int .i64 h2], .int .i64 0]) (by simp [results, Tryd.results12, go_sem, *]) rfl ⟨rfl, (below5 HB1.out (by omega)).alloc (by simp; omega) _⟩

end Go.Proofs.YtomcniakffipfaaDoor
