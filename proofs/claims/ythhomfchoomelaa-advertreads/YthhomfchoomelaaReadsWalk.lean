/-
  What AdvertReads does.
-/
import Derived.Test.YthhomfchoomelaaAalive
import Derived.Test.YthhomfchoomelaaAsame
import Derived.Test.YthhomfchoomelaaRdAny
namespace Go.Proofs.Ythhomfchoomelaa
open Go.RowKit
set_option linter.unusedVariables false
set_option maxRecDepth 10000

set_option maxHeartbeats 1000000 in
theorem reads_same (f t : ByteArray) (p l : Int) (s : ByteArray) (w : World) (h5 : s.size ≤ 5000) (i q e : Int) (n : Nat) (ss : List ByteArray) (v : Int) (hn : n ≤ 140737488351232)
    (hd : ∀ w : World, Calls Try.prog 14 #[.agg #[.string f, .string t, .int .i64 p, .int .i64 l, .string s]] w fun r w' => ∃ A c, r = .returned (.tuple #[.agg #[.int .i64 i, .int .i64 q, .int .i64 e, .slice A n c], .int .i64 v]) ∧ Strs w' A n c ss ∧ Below w.heap.size w w')
    (hr : ∀ w : World, Calls Try.prog 15 #[.agg #[.string f, .string t, .int .i64 p, .int .i64 l, .string s]] w fun r w' => ∃ A c, r = .returned (.tuple #[.agg #[.int .i64 i, .int .i64 q, .int .i64 e, .slice A n c], .int .i64 v]) ∧ Strs w' A n c ss ∧ Below w.heap.size w w') :
    Calls Try.prog 4 #[.agg #[.string f, .string t, .int .i64 p, .int .i64 l, .string s]] w fun r w' => r = .returned (.bool true) ∧ Below w.heap.size w w' := by
  have HD := Lib.hid hd
  have HR := Lib.hid hr
  have HA := Lib.hid alive_any
  have hz : ¬ (5000 : Int) < (s.size : Int) := by omega
  have HQ : Hid (sameB i q e ss i q e ss = true) := Lib.hid (by simp [sameB])
  have B0 := Lib.hid ((Below.refl w.heap.size w).alloc (Nat.le_refl _) (.cells #[.string f, .string t, .int .i64 p, .int .i64 l, .string s] 28))
  have HP := Lib.hid (Boxed.new w f t p l s)
  clear hd hr
  go_enter Try.func4, Try.ntmps4
  go_wp2_with fail
  refine (HD.out _).mono ?_
  rintro r w1 ⟨A1, c1, rfl, hS1, hb1⟩
  have B1 := Lib.hid (B0.out.trans (hb1.mono (by simp)))
  have hp1 := HP.out.below hb1 (by simp)
  have HP1 := Lib.hid hp1
  obtain ⟨y0, y1, y2, y3, y4⟩ := hp1
  have m1 : w.heap.size < w1.heap.size := World.block_lt_of_cell? _ _ y0
  have HS1 := Lib.hid (hS1.alloc (.cells #[.int .i64 i, .int .i64 q, .int .i64 e, .slice A1 n c1] 32))
  clear hb1 hS1
  go_wp2_with fail
  refine (HR.out _).mono ?_
  rintro r w2 ⟨A2, c2, rfl, hS2, hb2⟩
  have B2 := Lib.hid ((B1.out.alloc (by omega) _).trans (hb2.mono (by simp; omega)))
  have HX1 := Lib.hid ((BoxA.new w1 i q e (.slice A1 n c1)).below hb2 (by simp))
  have m2 : w1.heap.size < w2.heap.size := HX1.out.lt
  have HS1b := Lib.hid ((HS1.out.below hb2).alloc (.cells #[.int .i64 i, .int .i64 q, .int .i64 e, .slice A2 n c2] 24))
  have HS2 := Lib.hid (hS2.alloc (.cells #[.int .i64 i, .int .i64 q, .int .i64 e, .slice A2 n c2] 24))
  clear hb2 hS2 y0 y1 y2 y3 y4
  go_wp2_with fail
  refine (HA.out _).mono ?_
  rintro r w3 ⟨rfl, hb3⟩
  have B3 := Lib.hid ((B2.out.alloc (by omega) _).trans (hb3.mono (by simp; omega)))
  have hX1 := (HX1.out.alloc (.cells #[.int .i64 i, .int .i64 q, .int .i64 e, .slice A2 n c2] 24)).below hb3 (by simp; omega)
  have hX2 := (BoxD.new w2 i q e (.slice A2 n c2)).below hb3 (by simp)
  obtain ⟨u0, u1, u2, u3⟩ := hX1.cells
  obtain ⟨v0, v1, v2, v3⟩ := hX2.cells
  have m3 : w2.heap.size < w3.heap.size := hX2.lt
  have m4 : w1.heap.size < w3.heap.size := hX1.lt
  have HS3 := Lib.hid (HS1b.out.below hb3)
  have HS4 := Lib.hid (HS2.out.below hb3)
  clear hb3 hX1 hX2
  go_wp2_with fail
  refine (same_at HS3.out HS4.out hn HQ.out).mono ?_
  rintro r w4 ⟨rfl, hb4⟩
  have B4 := Lib.hid (B3.out.trans (hb4.mono (by omega)))
  clear hb4
  go_wp2
  go_ret
  exact ⟨by first | rfl | simp, B4.out⟩

set_option maxHeartbeats 400000 in
theorem reads_great (f t : ByteArray) (p l : Int) (s : ByteArray) (w : World) (h5 : 5000 < s.size) (hs : s.size ≤ 140737488351232) :
    Calls Try.prog 4 #[.agg #[.string f, .string t, .int .i64 p, .int .i64 l, .string s]] w fun r w' => r = .returned (.bool true) ∧ Below w.heap.size w w' := by
  have HA := Lib.hid alive_any
  have hz : (5000 : Int) < (s.size : Int) := by omega
  have B0 := Lib.hid ((Below.refl w.heap.size w).alloc (Nat.le_refl _) (.cells #[.string f, .string t, .int .i64 p, .int .i64 l, .string s] 28))
  go_enter Try.func4, Try.ntmps4
  go_wp2_with fail
  refine (HA.out _).mono ?_
  rintro r w1 ⟨rfl, hb1⟩
  have B1 := Lib.hid (B0.out.trans (hb1.mono (by simp)))
  clear hb1
  go_wp2
  go_ret
  exact ⟨rfl, B1.out⟩

theorem reads_walk (f t : ByteArray) (p l : Int) (s : ByteArray) (w : World) (_ : (Lit.int .i64 p).wf = true) (_ : (Lit.int .i64 l).wf = true) (hb : f.size ≤ 140737488351232 ∧ t.size ≤ 140737488351232 ∧ s.size ≤ 140737488351232) :
    Calls Try.prog 4 #[.agg #[.string f, .string t, .int .i64 p, .int .i64 l, .string s]] w fun r w' => r = .returned (.bool true) ∧ Below w.heap.size w w' := by
  by_cases h5 : 5000 < s.size
  · exact reads_great f t p l s w h5 hb.2.2
  by_cases ha : amiss f t p l s = 0
  · have hz := (ok_sizes ha).2.1
    exact reads_same f t p l s w (by omega) _ _ _ _ _ _ (by omega) (fun w => decode_ok f t p l s w hb.1 hb.2.1 ha) (fun w => rdecode_ok f t p l s w hb.1 hb.2.1 hb.2.2 ha)
  · exact reads_same f t p l s w (by omega) 0 0 0 0 [] _ (by omega)
      (fun w => (decode_bad f t p l s _ w hb.1 hb.2.1 hb.2.2 rfl ha).mono fun r w' ⟨h1, h2⟩ => ⟨none, 0, h1, Strs.nil _, h2⟩)
      (fun w => (rdecode_bad f t p l s w hb.1 hb.2.1 hb.2.2 _ rfl ha).mono fun r w' ⟨h1, h2⟩ => ⟨none, 0, h1, Strs.nil _, h2⟩)

end Go.Proofs.Ythhomfchoomelaa
